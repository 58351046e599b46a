import copy
import itertools
import unittest

from strangersay.sayings import is_saying, simples, sorts_of
from tests.samples import Agreeing, AnswersTest, nested, odd_things

SUM = ("sum", (2, -3), 1)
REST = ("rest", (1, 2), 1, 3)
UNLIKE = tuple(("sum", (1, 0), c) for c in range(7))


def joined(parts, word):
    """The parts joined pairwise, so that as few as may be stand within one another."""
    while len(parts) > 1:
        pairs = [parts[at:at + 2] for at in range(0, len(parts), 2)]
        parts = [(word, *pair) if len(pair) == 2 else pair[0] for pair in pairs]
    return parts[0]


class IsSayingTest(AnswersTest):
    def yes(self, *things):
        self.answers(True, is_saying, *things)

    def no(self, *things):
        self.answers(False, is_saying, *things)

    def test_ordinary(self):
        self.yes(SUM, REST, ("not", SUM), ("and", SUM, REST), ("or", REST, SUM), ("and", SUM, SUM),
                 ("or", ("not", ("and", SUM, REST)), ("not", REST)))

    def test_anything_is_answered_by_a_truth(self):
        self.no(*odd_things())

    def test_anything_as_a_part_of_a_joined_one(self):
        for thing in odd_things():
            self.no(("not", thing), ("and", SUM, thing), ("and", thing, SUM), ("or", SUM, thing), ("or", thing, SUM))

    def test_anything_as_a_part_of_a_simple_one(self):
        for thing in odd_things():
            if not isinstance(thing, int) or isinstance(thing, bool):
                self.no(("sum", (1, 2), thing), ("sum", (thing, 2), 0), ("sum", (1, thing), 0),
                        ("rest", (1, 2), thing, 3), ("rest", (1, 2), 0, thing), ("rest", (thing, 2), 0, 3))
            self.no(("sum", thing, 0), ("rest", thing, 0, 3))
            if not isinstance(thing, str):
                self.no((thing, (1, 2), 0), (thing, (1, 2), 0, 3))

    def test_how_many_sorts(self):
        for many in range(1, 7):
            self.yes(("sum", (1,) * many, 0), ("rest", (1,) * many, 0, 2))
        for many in (0, 7, 8):
            self.no(("sum", (1,) * many, 0), ("rest", (1,) * many, 0, 2))

    def test_worths(self):
        for worth in (-9, -8, 0, 8, 9):
            self.yes(("sum", (worth,), 0), ("rest", (worth,), 0, 2), ("sum", (1, worth), 0), ("sum", (worth, 1), 0))
        for worth in (-10, 10, 10 ** 30 - 1, -(10 ** 30 - 1)):
            self.no(("sum", (worth,), 0), ("rest", (worth,), 0, 2), ("sum", (1, worth), 0), ("sum", (worth, 1), 0))

    def test_bound(self):
        for bound in (-20, -19, 0, 19, 20):
            self.yes(("sum", (1,), bound))
        for bound in (-21, 21, 10 ** 30 - 1, -(10 ** 30 - 1)):
            self.no(("sum", (1,), bound))

    def test_divisor_and_rest(self):
        for divisor in range(2, 10):
            self.yes(("rest", (1,), 0, divisor), ("rest", (1,), divisor - 1, divisor))
            self.no(("rest", (1,), -1, divisor), ("rest", (1,), divisor, divisor), ("rest", (1,), divisor + 1, divisor))
        for divisor in (-2, -1, 0, 1, 10, 11, 10 ** 30 - 1):
            self.no(("rest", (1,), 0, divisor))

    def test_wrong_in_the_place_of_a_number(self):
        for wrong in (True, False, "1", "", None, [1], (1,), b"1", Agreeing()):
            self.no(("sum", (wrong,), 0), ("sum", (1, wrong), 0), ("sum", (1,), wrong),
                    ("rest", (wrong,), 0, 2), ("rest", (1,), wrong, 2), ("rest", (1,), 0, wrong))

    def test_wrong_in_the_place_of_a_part(self):
        self.no(["sum", (1,), 0], ("sum", [1], 0), ["not", SUM], ("not", list(SUM)), ("and", list(SUM), SUM),
                ("or", SUM, list(SUM)), ["and", SUM, SUM], (b"sum", (1,), 0), ("Sum", (1,), 0), ("sums", (1,), 0),
                ("not", "sum"), ("not", None), ("and", SUM, True), ("or", False, SUM), ("xor", SUM, SUM))

    def test_parts_missing_and_too_many(self):
        self.no((), ("sum",), ("sum", (1,)), ("sum", (1,), 0, 0), ("sum", (1,), 0, 2), ("rest",), ("rest", (1,)),
                ("rest", (1,), 0), ("rest", (1,), 0, 2, 2), ("not",), ("not", SUM, SUM), ("and",), ("and", SUM),
                ("and", SUM, SUM, SUM), ("or",), ("or", SUM), ("or", SUM, SUM, SUM))

    def test_unlike_many_sorts(self):
        one, two = ("sum", (1,), 0), ("rest", (1, 1), 0, 2)
        for word in ("and", "or"):
            self.no((word, one, two), (word, two, one), (word, ("not", one), two), (word, one, (word, one, two)))
            self.yes((word, one, one), (word, two, two))

    def test_how_deep(self):
        for wrap in (lambda core: ("not", core), lambda core: ("and", core, SUM), lambda core: ("or", REST, core)):
            self.yes(nested(SUM, wrap, 6), nested(SUM, wrap, 7))
            self.no(nested(SUM, wrap, 8), nested(SUM, wrap, 9), nested(SUM, wrap, 28))
        self.yes(nested(SUM, lambda core: ("and", core, core), 7))
        self.no(nested(SUM, lambda core: ("and", core, core), 8), nested(SUM, lambda core: ("or", core, core), 28))

    def test_how_many_unlike_simple_ones(self):
        for word in ("and", "or"):
            self.yes(joined(UNLIKE[:5], word), joined(UNLIKE[:6], word))
            self.no(joined(UNLIKE, word), ("not", joined(UNLIKE, word)))
            self.yes(joined(UNLIKE[:6] * 10, word))
            self.no(joined(UNLIKE * 2, word))
        self.yes(joined([SUM] * 128, "and"))

    def test_unlike_by_any_of_their_parts(self):
        near = (("sum", (1, 0), 0), ("sum", (0, 1), 0), ("sum", (1, 0), 1),
                ("rest", (1, 0), 0, 2), ("rest", (1, 0), 1, 2), ("rest", (1, 0), 0, 3))
        self.yes(joined(near, "or"))
        self.no(joined((*near, ("rest", (0, 1), 0, 3)), "or"))

    def test_nothing_is_changed_and_the_same_is_told_again(self):
        for thing in (["sum", [1], 0], ("not", ["sum", {"a": [1]}]), {"not": [SUM]}, ("and", SUM, [REST])):
            ahead = copy.deepcopy(thing)
            self.assertIs(is_saying(thing), False)
            self.assertIs(is_saying(thing), False)
            self.assertEqual(thing, ahead)


class SortsOfTest(unittest.TestCase):
    def test_of_simple_and_joined_ones(self):
        for many in range(1, 7):
            one, other = ("sum", (1,) * many, 0), ("rest", (1,) * many, 0, 2)
            for saying in (one, other, ("not", one), ("and", one, other), ("or", ("not", other), one),
                           nested(one, lambda core: ("not", core), 7)):
                with self.subTest(saying):
                    self.assertEqual(sorts_of(saying), many)


class SimplesTest(unittest.TestCase):
    def test_of_a_simple_one(self):
        self.assertEqual(simples(SUM), (SUM,))
        self.assertEqual(simples(("not", ("not", REST))), (REST,))

    def test_rests_rise_ahead_of_sums(self):
        self.assertEqual(simples(("and", SUM, REST)), (REST, SUM))

    def test_rising_each_once_however_joined(self):
        ones = (("sum", (2, 0), -1), ("sum", (2, 0), 3), ("sum", (-2, 5), 3), ("rest", (1, 1), 1, 2))
        rising = (("rest", (1, 1), 1, 2), ("sum", (-2, 5), 3), ("sum", (2, 0), -1), ("sum", (2, 0), 3))
        for order in itertools.permutations(ones):
            for word in ("and", "or"):
                self.assertEqual(simples(joined(order, word)), rising)
                self.assertEqual(simples(("not", joined(order + order[:2], word))), rising)
                self.assertEqual(simples(nested(joined(order, word), lambda core: ("or", core, ones[0]), 3)), rising)

    def test_rests_with_one_another(self):
        ones = [("rest", (1,), r, m) for m in (5, 3) for r in (2, 0, 1)]
        self.assertEqual(simples(joined(ones, "or")),
                         tuple(("rest", (1,), r, m) for r in (0, 1, 2) for m in (3, 5)))

    def test_told_is_a_tuple_that_may_be_handed_in_again(self):
        for simple in simples(joined(UNLIKE[:6], "and")):
            self.assertIs(is_saying(simple), True)
            self.assertEqual(simples(simple), (simple,))


if __name__ == "__main__":
    unittest.main()
