import unittest

from strangersay.sizes import left_by, says, size_of


class SizeOfTest(unittest.TestCase):
    def test_of_sums(self):
        for simple, size in (
            (("sum", (0,), 0), 1), (("sum", (1,), 0), 1), (("sum", (-1,), 0), 1), (("sum", (2,), 0), 2),
            (("sum", (-2,), 0), 2), (("sum", (3,), 3), 4), (("sum", (4,), 3), 4), (("sum", (5,), 3), 5),
            (("sum", (3,), -3), 4), (("sum", (-4,), -3), 4), (("sum", (-5,), -3), 5), (("sum", (0,), -1), 2),
            (("sum", (0,), 1), 2), (("sum", (9, -9), 20), 21), (("sum", (9, -9), -20), 21),
            (("sum", (9, 1), 8), 9), (("sum", (1, -9), -8), 9), (("sum", (9,), 9), 10),
            (("sum", (2, -3), 1), 3), (("sum", (1, 2, -7, 3, 0, 6), 2), 7),
        ):
            with self.subTest(simple):
                self.assertEqual(size_of(simple), size)

    def test_of_rests(self):
        for divisor in range(2, 10):
            self.assertEqual(size_of(("rest", (9, -9), 1, divisor)), divisor - 1)


class SaysTest(unittest.TestCase):
    def test_sums_at_the_edge(self):
        for bound in (-20, -1, 0, 1, 20):
            simple = ("sum", (1,), bound)
            self.assertIs(says(simple, bound - 1), False)
            self.assertIs(says(simple, bound), True)
            self.assertIs(says(simple, bound + 1), True)
            self.assertIs(says(simple, -size_of(simple)), False)
            self.assertIs(says(simple, size_of(simple)), True)

    def test_rests(self):
        for divisor in range(2, 10):
            for rest in range(divisor):
                for number in range(divisor):
                    self.assertIs(says(("rest", (1,), rest, divisor), number), number == rest)

    def test_what_is_left(self):
        self.assertEqual([left_by(("rest", (1,), 0, 3), number) for number in (-4, -3, -1, 0, 2, 3, 7)],
                         [2, 0, 2, 0, 2, 0, 1])
        self.assertEqual([left_by(("sum", (1,), 0), number) for number in (-40, 0, 40)], [-40, 0, 40])


if __name__ == "__main__":
    unittest.main()
