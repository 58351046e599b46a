import unittest

from strangersay import errors
from tests.samples import odd_things

WITH_VALUE = {
    "NoSort": "thing", "NoState": "thing", "NoCount": "thing", "NoOne": "member",
    "NoMeeting": "at", "NoDeed": "at", "NoText": "row",
}
WITH_TEXT = ("NoRow", "Full", "NoBack", "NoLine", "TooMany")


class ErrorsTest(unittest.TestCase):
    def test_crowd_error_stands_straight_under_value_error(self):
        self.assertEqual(errors.CrowdError.__bases__, (ValueError,))

    def test_each_stands_straight_under_crowd_error(self):
        for name in (*WITH_VALUE, *WITH_TEXT):
            with self.subTest(name):
                self.assertEqual(getattr(errors, name).__bases__, (errors.CrowdError,))

    def test_none_is_under_another(self):
        names = (*WITH_VALUE, *WITH_TEXT)
        for one in names:
            for other in names:
                if one != other:
                    self.assertFalse(issubclass(getattr(errors, one), getattr(errors, other)))

    def test_those_with_a_value_keep_it(self):
        for name, attribute in WITH_VALUE.items():
            for value in (0, 3, 10 ** 30 - 1, ("member", 0, ((True, 1, True),)), *odd_things()):
                with self.subTest(name):
                    error = getattr(errors, name)(value)
                    self.assertIs(getattr(error, attribute), value)
                    self.assertEqual(list(vars(error)), [attribute])
                    self.assertIsInstance(str(error), str)

    def test_those_with_a_value_want_just_one(self):
        for name in WITH_VALUE:
            with self.subTest(name):
                self.assertRaises(TypeError, getattr(errors, name))
                self.assertRaises(TypeError, getattr(errors, name), 1, 2)

    def test_those_with_a_text_are_made_with_it(self):
        for name in WITH_TEXT:
            with self.subTest(name):
                self.assertEqual(str(getattr(errors, name)("so it is")), "so it is")

    def test_each_can_be_raised_and_caught_as_told(self):
        for name in (*WITH_VALUE, *WITH_TEXT):
            for caught in (getattr(errors, name), errors.CrowdError, ValueError):
                with self.subTest(name), self.assertRaises(caught):
                    raise getattr(errors, name)("x")


if __name__ == "__main__":
    unittest.main()
