import unittest

from strangersay.crowds import crowd_of
from strangersay.showing import show_crowd, show_saying, show_state
from tests.samples import BOTH, member, nested, note

GREAT = 10 ** 30 - 1


class ShowSayingTest(unittest.TestCase):
    def test_those_of_the_document(self):
        self.assertEqual(show_saying(("sum", (2, -3), 1)), "2: 2a - 3b >= 1")
        self.assertEqual(show_saying(("rest", (0, -1, 0), 0, 2)), "3: -1b rest 0 of 2")
        self.assertEqual(show_saying(("rest", (1, 2), 1, 3)), "2: 1a + 2b rest 1 of 3")

    def test_no_worth_but_0(self):
        self.assertEqual(show_saying(("sum", (0,), 0)), "1: 0 >= 0")
        self.assertEqual(show_saying(("sum", (0, 0, 0), -20)), "3: 0 >= -20")
        self.assertEqual(show_saying(("rest", (0,) * 6, 8, 9)), "6: 0 rest 8 of 9")

    def test_the_first_worth_below_0(self):
        self.assertEqual(show_saying(("sum", (-1,), -1)), "1: -1a >= -1")
        self.assertEqual(show_saying(("sum", (-9, -9), 20)), "2: -9a - 9b >= 20")
        self.assertEqual(show_saying(("sum", (0, -2, 3), 0)), "3: -2b + 3c >= 0")

    def test_all_six_letters(self):
        self.assertEqual(show_saying(("sum", (1, -2, 3, -4, 5, -6), 7)), "6: 1a - 2b + 3c - 4d + 5e - 6f >= 7")
        self.assertEqual(show_saying(("rest", (0, 0, 9, 0, 0, -9), 3, 4)), "6: 9c - 9f rest 3 of 4")
        for sort, letter in enumerate("abcdef"):
            worths = tuple(1 if sort == at else 0 for at in range(6))
            self.assertEqual(show_saying(("sum", worths, 1)), f"6: 1{letter} >= 1")

    def test_joined(self):
        one, other = ("sum", (1, 0), 1), ("rest", (0, 1), 0, 2)
        self.assertEqual(show_saying(("not", one)), "2: not (1a >= 1)")
        self.assertEqual(show_saying(("and", one, other)), "2: (1a >= 1) and (1b rest 0 of 2)")
        self.assertEqual(show_saying(("or", other, one)), "2: (1b rest 0 of 2) or (1a >= 1)")
        self.assertEqual(show_saying(BOTH), "2: (2a - 3b >= 1) and (not (1a - 2b rest 1 of 3))")
        self.assertEqual(show_saying(("or", ("and", one, other), ("not", ("or", one, one)))),
                         "2: ((1a >= 1) and (1b rest 0 of 2)) or (not ((1a >= 1) or (1a >= 1)))")

    def test_eight_within_one_another(self):
        saying = nested(("sum", (1,), 1), lambda core: ("not", core), 7)
        self.assertEqual(show_saying(saying), "1: " + "not (" * 7 + "1a >= 1" + ")" * 7)


class ShowStateTest(unittest.TestCase):
    def test_members(self):
        self.assertEqual(show_state(member((True, 2, True))), "a !2y")
        self.assertEqual(show_state(member((False, 0, False), sort=1)), "b 0n")
        self.assertEqual(show_state(member((True, -3, False), (False, 21, True), (False, -1, True), sort=5)),
                         "f !-3n 21y -1y")

    def test_notes(self):
        self.assertEqual(show_state(note((True, 0))), "- !0")
        self.assertEqual(show_state(note((False, -42))), "- -42")
        self.assertEqual(show_state(note((False, 7), (True, -7), (False, 0))), "- 7 !-7 0")

    def test_the_letters(self):
        for sort, letter in enumerate("abcdef"):
            self.assertEqual(show_state(member((False, 1, True), sort=sort)), f"{letter} 1y")


class ShowCrowdTest(unittest.TestCase):
    def test_nobody(self):
        self.assertEqual(show_crowd(()), "")

    def test_rows(self):
        self.assertEqual(show_crowd(((member((True, 2, True)), 1),)), "1 a !2y")
        self.assertEqual(show_crowd(((member((False, 0, True)), 12), (member((True, 2, True)), 1),
                                     (member((True, -3, False), sort=1), GREAT), (note((False, -5)), 3))),
                         f"12 a 0y\n1 a !2y\n{GREAT} b !-3n\n3 - -5")
        self.assertEqual(show_crowd(crowd_of(BOTH, (4, 5))), "4 a !1y !2y\n5 b !1y !-3n")


if __name__ == "__main__":
    unittest.main()
