import itertools
import random
import unittest

from strangersay.calm import is_calm
from strangersay.crowds import counts_of, crowd_of, words_in
from strangersay.endings import looks_ended
from strangersay.rounds import done, is_row
from strangersay.settling import settling
from strangersay.truths import is_true
from tests.draws import some_simple

GREAT = 10 ** 30 - 1


class SettlingTest(unittest.TestCase):
    def settles(self, simple, counts):
        """The row is short, and leads to a calm crowd where each member says the truth."""
        row = settling(simple, counts)
        self.assertIs(is_row(simple, row), True)
        self.assertLessEqual(len(row), 1000)
        for _, meetings in row:
            self.assertLessEqual(len(meetings), 10)
        behind = done(simple, crowd_of(simple, counts), row)
        self.assertIs(is_calm(simple, behind), True)
        self.assertEqual(counts_of(simple, behind), counts)
        everybody = sum(counts)
        self.assertEqual(words_in(simple, behind), (everybody, 0) if is_true(simple, counts) else (0, everybody))
        self.assertIs(looks_ended(simple, crowd_of(simple, counts), row), True)
        self.assertEqual(settling(simple, counts), row)

    def test_of_nobody(self):
        for simple in (("sum", (1, -1), 1), ("sum", (0, 0), 0), ("rest", (1, 2), 0, 3)):
            self.assertEqual(settling(simple, (0, 0)), ())
        self.assertEqual(settling(("sum", (1,) * 6, 1), (0,) * 6), ())

    def test_of_one(self):
        for simple in (("sum", (1, -1), 1), ("sum", (9, 0), -20), ("rest", (1, 2), 0, 3)):
            self.settles(simple, (1, 0))
            self.settles(simple, (0, 1))

    def test_of_one_sort(self):
        for many in (2, 3, 9, 10, 11, 100, GREAT - 1, GREAT):
            for worth in (-9, -1, 0, 1, 5, 9):
                for bound in (-20, 0, 1, 20):
                    self.settles(("sum", (worth,), bound), (many,))
                    self.settles(("sum", (worth, 1, 1), bound), (many, 0, 0))

    def test_sums_of_worths_of_both_signs(self):
        manys = (1, 2, 17, 10 ** 20, GREAT)
        for one, other in ((1, -1), (9, -8), (-9, 8), (9, -1), (1, -9), (5, -3), (9, -9), (2, -7)):
            for bound in (-20, 0, 20):
                for counts in itertools.product(manys, repeat=2):
                    self.settles(("sum", (one, other), bound), counts)

    def test_sums_that_just_make_it(self):
        for bound in range(-20, 21):
            simple = ("sum", (1, -1), bound)
            for off in (-2, -1, 0, 1, 2):
                self.settles(simple, (GREAT - 100 + bound + off, GREAT - 100))
                self.settles(simple, (50 + bound + off, 50))

    def test_sums_of_worths_of_0_alone(self):
        for bound in (-20, -1, 0, 1, 20):
            self.settles(("sum", (0, 0, 0), bound), (GREAT, GREAT, GREAT))
            self.settles(("sum", (0, 0, 0), bound), (1, 0, GREAT))
            self.settles(("sum", (0,), bound), (2,))

    def test_sums_of_0_among_others(self):
        for bound in (-20, 0, 20):
            for counts in itertools.product((0, 1, 2, GREAT), repeat=3):
                self.settles(("sum", (0, 4, -7), bound), counts)

    def test_rests_of_each_m(self):
        for divisor in range(2, 10):
            for rest in range(divisor):
                for counts in ((1, 0), (0, 5), (GREAT, GREAT), (GREAT - 1, 3), (divisor, divisor + 1), (8, 10 ** 29)):
                    for worths in ((1, -1), (1, 2), (0, 9), (-9, 6), (0, 0)):
                        self.settles(("rest", worths, rest, divisor), counts)

    def test_rests_of_one_sort(self):
        for divisor in range(2, 10):
            for many in range(1, 25):
                self.settles(("rest", (1,), 0, divisor), (many,))
                self.settles(("rest", (-4,), 1, divisor), (many,))

    def test_of_thirty_figures_in_each_of_six_sorts(self):
        for worths in ((9, -9, 8, -8, 7, -7), (9, 8, 7, 6, 5, 4), (-1, -2, -3, -4, -5, -6), (9, -1, 9, -1, 9, -1),
                       (0, 0, 9, -8, 0, 1), (1, 1, 1, 1, 1, -9), (-9, 8, -7, 6, -5, 4)):
            for bound in (-20, 0, 20):
                self.settles(("sum", worths, bound), (GREAT,) * 6)
                self.settles(("sum", worths, bound), tuple(GREAT // (3 * k + 1) for k in range(6)))
            for divisor in (2, 7, 9):
                self.settles(("rest", worths, 1, divisor), (GREAT,) * 6)
                self.settles(("rest", worths, 1, divisor), tuple(GREAT // (3 * k + 1) for k in range(6)))

    def test_drawn(self):
        chance = random.Random(61)
        for _ in range(600):
            simple = some_simple(chance, chance.randint(1, 6))
            counts = tuple(chance.choice((0, 1, chance.randint(0, 20), chance.randint(0, GREAT), GREAT,
                                          10 ** chance.randint(0, 29))) for _ in simple[1])
            self.settles(simple, counts)


if __name__ == "__main__":
    unittest.main()
