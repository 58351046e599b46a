import copy
import itertools
import unittest

from strangersay.sayings import simples
from strangersay.truths import by_words, is_counts, is_true, total
from tests.samples import Agreeing, odd_things

SUM = ("sum", (2, -3), 1)
REST = ("rest", (1, 2), 1, 3)
GREAT = 10 ** 30 - 1


class IsCountsTest(unittest.TestCase):
    def test_ordinary(self):
        for saying in (SUM, REST, ("not", SUM), ("and", SUM, REST)):
            for counts in ((0, 0), (1, 0), (5, 7), (GREAT, GREAT)):
                self.assertIs(is_counts(saying, counts), True)
        self.assertIs(is_counts(("sum", (1,) * 6, 0), (0, 1, 2, 3, 4, 5)), True)

    def test_anything_is_answered_by_a_truth(self):
        for saying in (SUM, ("sum", (1,), 0), ("sum", (1,) * 3, 0)):
            for thing in odd_things():
                self.assertIs(is_counts(saying, thing), False)

    def test_anything_in_the_place_of_a_number(self):
        for thing in odd_things():
            if not isinstance(thing, int) or isinstance(thing, bool):
                self.assertIs(is_counts(SUM, (thing, 0)), False)
                self.assertIs(is_counts(SUM, (0, thing)), False)

    def test_wrong(self):
        for thing in ((), (0,), (0, 0, 0), (-1, 0), (0, -1), (True, 0), (0, False), [0, 0], ("0", 0), (None, 0),
                      (-GREAT, 0), (Agreeing(), 0), {0: 0, 1: 0}, "00", b"00", range(2)):
            with self.subTest(thing):
                self.assertIs(is_counts(SUM, thing), False)

    def test_nothing_is_changed(self):
        thing = [1, [2]]
        ahead = copy.deepcopy(thing)
        is_counts(SUM, thing)
        is_counts(SUM, (thing, thing))
        self.assertEqual(thing, ahead)


class TotalTest(unittest.TestCase):
    def test_ordinary(self):
        self.assertEqual(total(SUM, (0, 0)), 0)
        self.assertEqual(total(SUM, (1, 0)), 2)
        self.assertEqual(total(SUM, (0, 1)), -3)
        self.assertEqual(total(SUM, (5, 4)), -2)
        self.assertEqual(total(("sum", (1, -2, 3, -4, 5, -6), 0), (1, 1, 1, 1, 1, 1)), -3)

    def test_of_a_rest_it_is_not_cut(self):
        self.assertEqual(total(REST, (5, 4)), 13)
        self.assertEqual(total(("rest", (-9,), 0, 2), (3,)), -27)

    def test_of_thirty_figures(self):
        self.assertEqual(total(SUM, (GREAT, GREAT)), -GREAT)
        self.assertEqual(total(REST, (GREAT, GREAT)), 3 * GREAT)
        self.assertEqual(total(("sum", (9,) * 6, 0), (GREAT,) * 6), 54 * GREAT)


class IsTrueTest(unittest.TestCase):
    def test_nobody(self):
        for bound in range(-20, 21):
            self.assertIs(is_true(("sum", (1, -1), bound), (0, 0)), bound <= 0)
        for divisor in range(2, 10):
            for rest in range(divisor):
                self.assertIs(is_true(("rest", (1, -1), rest, divisor), (0, 0)), rest == 0)

    def test_at_both_edges_of_a_bound(self):
        for bound in range(0, 21):
            simple = ("sum", (1,), bound)
            self.assertIs(is_true(simple, (bound,)), True)
            self.assertIs(is_true(simple, (bound + 1,)), True)
            if bound:
                self.assertIs(is_true(simple, (bound - 1,)), False)
        for bound in range(-20, 1):
            simple = ("sum", (-1,), bound)
            self.assertIs(is_true(simple, (-bound,)), True)
            self.assertIs(is_true(simple, (-bound + 1,)), False)

    def test_rests(self):
        for first, second, divisor in itertools.product((-9, -1, 0, 4), (-2, 1, 9), (2, 3, 9)):
            for one, other in itertools.product(range(4), range(4)):
                left = (first * one + second * other) % divisor
                for rest in range(divisor):
                    simple = ("rest", (first, second), rest, divisor)
                    self.assertIs(is_true(simple, (one, other)), rest == left)

    def test_not_and_or(self):
        for counts in itertools.product(range(6), range(6)):
            one, other = 2 * counts[0] - 3 * counts[1] >= 1, (counts[0] + 2 * counts[1]) % 3 == 1
            self.assertIs(is_true(SUM, counts), one)
            self.assertIs(is_true(REST, counts), other)
            self.assertIs(is_true(("not", SUM), counts), not one)
            self.assertIs(is_true(("and", SUM, REST), counts), one and other)
            self.assertIs(is_true(("or", SUM, REST), counts), one or other)
            self.assertIs(is_true(("and", ("not", REST), ("or", SUM, ("not", SUM))), counts), not other)

    def test_of_thirty_figures(self):
        more = ("sum", (1, -1), 1)
        self.assertIs(is_true(more, (GREAT, GREAT)), False)
        self.assertIs(is_true(more, (GREAT, GREAT - 1)), True)
        self.assertIs(is_true(("rest", (1, 0), 0, 9), (GREAT, 0)), True)
        self.assertIs(is_true(("rest", (1, 0), 0, 9), (GREAT - 1, 0)), False)
        self.assertIs(is_true(("and", more, ("rest", (0, 1), 8, 9)), (GREAT, GREAT - 1)), True)


class ByWordsTest(unittest.TestCase):
    def test_each_word(self):
        for one, other in itertools.product((False, True), repeat=2):
            # the rest rises ahead of the sum
            words = (other, one)
            self.assertIs(by_words(("and", SUM, REST), words), one and other)
            self.assertIs(by_words(("and", REST, SUM), words), one and other)
            self.assertIs(by_words(("or", SUM, REST), words), one or other)
            self.assertIs(by_words(("or", SUM, ("not", REST)), words), one or not other)
            self.assertIs(by_words(("and", ("not", SUM), REST), words), not one and other)
            self.assertIs(by_words(("not", ("or", ("and", SUM, REST), SUM)), words), not one)

    def test_of_a_simple_one(self):
        for word in (False, True):
            self.assertIs(by_words(SUM, (word,)), word)
            self.assertIs(by_words(("not", REST), (word,)), not word)

    def test_the_words_are_in_the_order_of_simples(self):
        ones = [("sum", (1,), c) for c in (3, -2, 0)]
        saying = ("or", ones[0], ("and", ones[1], ("not", ones[2])))
        for words in itertools.product((False, True), repeat=3):
            told = dict(zip(simples(saying), words))
            so = told[ones[0]] or (told[ones[1]] and not told[ones[2]])
            self.assertIs(by_words(saying, words), so)


if __name__ == "__main__":
    unittest.main()
