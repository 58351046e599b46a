import copy
import itertools
import random
import unittest
from collections import Counter

from strangersay.layers import shows_layers
from strangersay.making import made
from strangersay.tables import is_table
from tests.draws import drawn_layers, falling_table, some_table
from tests.samples import EVEN, Agreeing, AnswersTest, nested, odd_things

GREAT = 10 ** 30 - 1


def with_rows(*rows, many=6):
    table = ("table", many, (0,), (True,) * many, rows)
    assert is_table(table)
    return table


def wakes_none(ahead, row):
    """Whether the row wakes none of those ahead, by the words of the document."""
    pairs = {one[:2] for one in ahead}
    for x, y in pairs:
        rest = Counter((x, y)) - Counter(row[2:])
        there = list((rest + Counter(row[:2])).elements())
        if not any(two in pairs or two[::-1] in pairs for two in itertools.combinations(there, 2)):
            return False
    return True


def are_right(table, layers):
    ahead = []
    for numbers, weights in layers:
        rows = [table[4][number] for number in numbers]
        for row in rows:
            p, q, p2, q2 = row
            if weights[p2] + weights[q2] >= weights[p] + weights[q] or not wakes_none(ahead, row):
                return False
        ahead += rows
    return True


class ShowsLayersTest(AnswersTest):
    def yes(self, table, *things):
        self.answers(True, lambda thing: shows_layers(table, thing), *things)

    def no(self, table, *things):
        self.answers(False, lambda thing: shows_layers(table, thing), *things)

    # three rows that take one from 2 to 1, and from 1 to 0; no layer wakes another one
    TABLE = with_rows((1, 1, 1, 0), (2, 1, 1, 1), (2, 2, 1, 2), many=3)
    WEIGHTS = (0, 1, 2)

    def test_ordinary(self):
        self.yes(self.TABLE, (((0, 1, 2), self.WEIGHTS),), (((1, 2), self.WEIGHTS), ((0,), self.WEIGHTS)),
                 (((1, 2), (0, 0, 1)), ((0,), (5, GREAT, 0))))

    def test_no_layers(self):
        for many in (1, 2, 60):
            self.yes(with_rows(many=many), ())
        self.no(self.TABLE, ())
        self.no(made(EVEN), ())
        self.no(with_rows(), ((),), (((), (0,) * 6),), (((0,), (1,) * 6),), [], None)

    def test_a_number_twice(self):
        for numbers in ((0, 0, 1, 2), (0, 1, 1, 2), (0, 1, 2, 2), (0, 1, 2, 0)):
            self.no(self.TABLE, ((numbers, self.WEIGHTS),))

    def test_a_number_in_two_layers(self):
        for first, second in (((0, 1, 2), (0,)), ((1, 2), (0, 1)), ((1, 2), (0, 2)), ((0, 1, 2), (0, 1, 2))):
            self.no(self.TABLE, ((first, self.WEIGHTS), (second, self.WEIGHTS)))
        self.no(self.TABLE, (((1, 2), self.WEIGHTS), ((0,), self.WEIGHTS), ((0,), self.WEIGHTS)))

    def test_a_number_left_out(self):
        for numbers in ((0, 1), (0, 2), (1, 2), (0,), (1,), (2,)):
            self.no(self.TABLE, ((numbers, self.WEIGHTS),))
        self.no(self.TABLE, (((2,), self.WEIGHTS), ((0,), self.WEIGHTS)))

    def test_a_number_out_of_the_table(self):
        for numbers in ((0, 1, 2, 3), (-1, 0, 1, 2), (0, 1, 3), (-1, 0, 1), (0, 1, 2, GREAT), (-GREAT, 0, 1, 2)):
            self.no(self.TABLE, ((numbers, self.WEIGHTS),))

    def test_numbers_that_dont_rise(self):
        for numbers in itertools.permutations(range(3)):
            self.answers(numbers == (0, 1, 2), lambda thing: shows_layers(self.TABLE, thing),
                         ((numbers, self.WEIGHTS),))
        self.no(self.TABLE, (((2, 1), self.WEIGHTS), ((0,), self.WEIGHTS)))

    def test_an_empty_layer(self):
        whole = ((0, 1, 2), self.WEIGHTS)
        for layers in ((((), self.WEIGHTS), whole), (whole, ((), self.WEIGHTS)), (((), (0, 0, 0)), whole)):
            self.no(self.TABLE, layers)

    def test_truths_for_numbers(self):
        table = with_rows((1, 1, 1, 0), (2, 1, 1, 1), many=3)
        self.yes(table, (((0, 1), self.WEIGHTS),), (((1,), self.WEIGHTS), ((0,), self.WEIGHTS)))
        self.no(table, (((0, True), self.WEIGHTS),), (((False, 1), self.WEIGHTS),),
                (((True,), self.WEIGHTS), ((0,), self.WEIGHTS)), (((0, 1), (0, True, 2)),),
                (((0, 1), (False, 1, 2)),), (((1,), self.WEIGHTS), ((False,), self.WEIGHTS)))

    def test_weights(self):
        for weights in ((0, 1), (0, 1, 2, 3), (), (-1, 1, 2), (0, 1, -2), (-3, -2, -1), (0, 1, None), (0, 1, "2"),
                        (0, 1, (2,)), "012", None, 3, [0, 1, 2], {0: 0, 1: 1, 2: 2}, (0, 1, Agreeing())):
            self.no(self.TABLE, (((0, 1, 2), weights),))
        for weights in ((1, 2, 3), (0, 5, 6), (0, GREAT - 1, GREAT), (0, 3, 100)):
            self.yes(self.TABLE, (((0, 1, 2), weights),))

    def test_a_row_that_makes_the_weights_not_less(self):
        # as great, and greater, in each of the rows
        for weights in ((1, 1, 2), (2, 1, 2), (0, 1, 1), (0, 2, 1), (0, 0, 1), (0, 0, 0), (5, 5, 5), (2, 1, 0)):
            self.no(self.TABLE, (((0, 1, 2), weights),))
        for weights, right in (((0, 0, 1), True), ((0, 1, 1), False), ((0, 1, 0), False)):
            self.answers(right, lambda thing: shows_layers(self.TABLE, thing),
                         (((1, 2), weights), ((0,), self.WEIGHTS)))
        for weights, right in (((0, 1, 0), True), ((1, 1, 0), False), ((1, 0, 2), False)):
            self.answers(right, lambda thing: shows_layers(self.TABLE, thing),
                         (((1, 2), self.WEIGHTS), ((0,), weights)))

    def test_both_states_count_together(self):
        table = with_rows((0, 1, 2, 3), many=4)
        for weights, right in (((5, 0, 0, 4), True), ((5, 0, 4, 0), True), ((0, 5, 2, 2), True), ((3, 2, 2, 3), False),
                               ((3, 2, 5, 0), False), ((3, 2, 0, 6), False), ((3, 2, 0, 4), True)):
            self.answers(right, lambda thing: shows_layers(table, thing), (((0,), weights),))

    def test_two_who_change_places_never_weigh_less(self):
        for weights in itertools.product(range(3), repeat=2):
            self.no(with_rows((0, 1, 1, 0), many=2), (((0,), weights),))

    # In what follows the last row of a table is behind the others, which are ahead of it by weights of their own.
    def behind(self, right, *rows, ahead_weights, weights):
        """Whether the last one of the rows may stand behind all others."""
        table = with_rows(*sorted(rows), many=len(weights))
        last = table[4].index(rows[-1])
        others = tuple(number for number in range(len(rows)) if number != last)
        layers = ((others, ahead_weights), ((last,), weights))
        self.answers(right, lambda thing: shows_layers(table, thing), layers)
        self.assertIs(are_right(table, layers), right)

    def test_waking_with_both_given(self):
        # two who are 2 and 3 behind the row meet by one ahead; 0 and 1 were there, who don't
        weights, rest = (1, 1, 0, 0, 0), (0, 0, 1, 1, 0)
        for x, y in ((2, 3), (3, 2)):
            self.behind(False, (x, y, 4, 4), (0, 1, 2, 3), ahead_weights=rest, weights=weights)
            self.behind(False, (x, y, 4, 4), (0, 1, 3, 2), ahead_weights=rest, weights=weights)

    def test_both_given_where_the_pair_itself_meets_in_the_other_order(self):
        # 1 and 0 have a row ahead: so where all ahead are at rest 0 and 1 are not both there
        weights, ahead = (1, 1, 0, 0, 0), (1, 1, 1, 1, 0)
        self.behind(True, (1, 0, 4, 4), (2, 3, 4, 4), (0, 1, 2, 3), ahead_weights=ahead, weights=weights)
        self.behind(True, (1, 0, 4, 4), (3, 2, 4, 4), (0, 1, 2, 3), ahead_weights=ahead, weights=weights)

    def test_with_one_given(self):
        # 5 stays from ahead: it is known to have been beside 0 and 1
        weights, ahead = (1, 1, 0, 0, 0, 0), (1, 1, 1, 1, 0, 1)
        for x, y in ((2, 5), (5, 2), (3, 5), (5, 3)):
            self.behind(False, (x, y, 4, 4), (0, 1, 2, 3), ahead_weights=ahead, weights=weights)
            for one in ((0, 5), (5, 0), (1, 5), (5, 1)):
                self.behind(True, (x, y, 4, 4), (*one, 4, 4), (0, 1, 2, 3), ahead_weights=ahead, weights=weights)
            # what 5 has with others doesn't help
            self.behind(False, (x, y, 4, 4), (5, 5, 4, 4), (0, 1, 2, 3), ahead_weights=ahead, weights=weights)

    def test_with_neither_given(self):
        weights, ahead = (1, 1, 0, 0, 0, 0), (3, 3, 3, 3, 1, 3)
        for x, y in ((4, 5), (5, 4), (5, 5), (0, 5), (0, 0), (1, 1), (1, 4)):
            self.behind(True, (x, y, 4, 4), (0, 1, 2, 3), ahead_weights=ahead, weights=weights)

    def test_with_twice_the_same(self):
        weights, ahead = (1, 1, 0, 0, 0, 0), (1, 1, 1, 1, 0, 1)
        # two in 2 wake it; both were given, or one of them was there beside 0 and 1
        self.behind(False, (2, 2, 4, 4), (0, 1, 2, 2), ahead_weights=ahead, weights=weights)
        self.behind(False, (2, 2, 4, 4), (0, 1, 2, 3), ahead_weights=ahead, weights=weights)
        self.behind(False, (2, 2, 4, 4), (0, 1, 3, 2), ahead_weights=ahead, weights=weights)
        self.behind(True, (0, 0, 4, 4), (0, 2, 4, 4), (2, 2, 4, 4), (0, 1, 2, 3), ahead_weights=ahead, weights=weights)
        self.behind(True, (1, 1, 4, 4), (2, 1, 4, 4), (2, 2, 4, 4), (0, 1, 3, 2), ahead_weights=ahead, weights=weights)
        # 0 beside the given 2 wakes one, and two in 0 are known then
        self.behind(False, (0, 2, 4, 4), (2, 2, 4, 4), (0, 1, 2, 3), ahead_weights=ahead, weights=weights)
        # where both are given nobody is known to have been there in 2
        self.behind(False, (0, 0, 4, 4), (0, 2, 4, 4), (2, 2, 4, 4), (0, 1, 2, 2), ahead_weights=ahead, weights=weights)

    def test_a_row_whose_own_two_are_one_state(self):
        weights, ahead = (1, 0, 0, 0, 0, 0), (1, 1, 1, 1, 0, 1)
        self.behind(False, (2, 3, 4, 4), (0, 0, 2, 3), ahead_weights=ahead, weights=weights)
        self.behind(False, (2, 5, 4, 4), (0, 0, 2, 3), ahead_weights=ahead, weights=weights)
        self.behind(True, (0, 5, 4, 4), (2, 5, 4, 4), (0, 0, 2, 3), ahead_weights=ahead, weights=weights)

    def test_who_stays_as_it_was(self):
        # 0 goes on to 2 beside 1, who stays: it meets 1 there, or others of its own
        weights, ahead = (1, 0, 0, 0, 0), (1, 1, 1, 1, 0)
        self.behind(False, (2, 1, 4, 4), (0, 1, 2, 1), ahead_weights=ahead, weights=weights)
        self.behind(True, (3, 1, 4, 4), (0, 1, 2, 1), ahead_weights=ahead, weights=weights)
        self.behind(True, (1, 1, 4, 4), (0, 1, 2, 1), ahead_weights=ahead, weights=weights)
        self.behind(True, (3, 1, 4, 4), (0, 1, 2, 2), ahead_weights=ahead, weights=weights)
        self.behind(True, (2, 1, 4, 4), (1, 1, 4, 4), (0, 1, 2, 3), ahead_weights=ahead, weights=(1, 1, 0, 0, 0))

    def test_of_three_layers(self):
        # each row gives what the row of a layer behind it takes, never of one ahead
        table = with_rows((0, 0, 0, 1), (1, 1, 1, 2), (2, 2, 2, 3), many=4)
        first, second, third = ((0,), (1, 0, 0, 0)), ((1,), (0, 1, 0, 0)), ((2,), (0, 0, 1, 0))
        self.yes(table, (first, second, third))
        # 0 beside 0 gives a 1, whom another 1 that was there can meet
        self.no(table, (second, first, third), (third, second, first), (first, third, second),
                (second, third, first), (third, first, second))

    def test_of_a_layer_two_ahead(self):
        table = with_rows((0, 0, 4, 4), (1, 1, 4, 4), (2, 2, 0, 0), many=5)
        falling = (1, 1, 2, 0, 0)
        self.no(table, (((0,), falling), ((1,), falling), ((2,), falling)))
        self.no(table, (((1,), falling), ((0,), falling), ((2,), falling)))
        self.yes(table, (((2,), falling), ((0,), falling), ((1,), falling)), (((0, 1, 2), falling),))
        # what keeps it from waking the first may stand in the second
        table = with_rows((0, 0, 4, 4), (2, 3, 4, 4), (3, 2, 0, 0), many=5)
        falling = (1, 1, 2, 1, 0)
        self.yes(table, (((0,), falling), ((1,), falling), ((2,), falling)))
        self.no(table, (((0,), falling), ((2,), falling), ((1,), falling)))

    def test_rows_of_one_layer_may_wake_one_another(self):
        table = with_rows((0, 0, 1, 1), (1, 1, 2, 2), many=3)
        self.yes(table, (((0, 1), (2, 1, 0)),), (((0,), (1, 0, 0)), ((1,), (0, 1, 0))))
        self.no(table, (((1,), (0, 1, 0)), ((0,), (1, 0, 0))))

    def test_lists(self):
        self.no(self.TABLE, [((0, 1, 2), self.WEIGHTS)], ([(0, 1, 2), self.WEIGHTS],), (([0, 1, 2], self.WEIGHTS),),
                (((0, 1, 2), list(self.WEIGHTS)),), (((0, 1, [2]), self.WEIGHTS),), (((0, 1, 2), (0, 1, [2])),))

    def test_forms(self):
        self.no(self.TABLE, ((0, 1, 2), self.WEIGHTS), (((0, 1, 2),),), (((0, 1, 2), self.WEIGHTS, ()),),
                (((0, 1, 2), self.WEIGHTS), ()), ((self.WEIGHTS, (0, 1, 2)),) * 2, ((),), (0, 1, 2), "layers",
                ("ab",), (("ab", "cd"),), {}, {0: 1}, (((0, "1", 2), self.WEIGHTS),), ((range(3), self.WEIGHTS),))

    def test_anything(self):
        for thing in odd_things():
            self.no(self.TABLE, thing, (thing,), ((thing, self.WEIGHTS),), (((0, 1, 2), thing),),
                    (((0, 1, 2), self.WEIGHTS), thing), (((0, 1, 2, thing), self.WEIGHTS),),
                    (((0, thing, 2), self.WEIGHTS),) if thing != 1 or isinstance(thing, bool) else None)
            if isinstance(thing, bool) or not isinstance(thing, int):
                self.no(self.TABLE, (((0, 1, 2), (thing, 1, 2)),), (((0, 1, 2), (0, 1, thing)),))
            self.no(with_rows(), thing, (thing,))

    def test_things_nested_thirty_deep(self):
        for wrap in (lambda core: (core,), lambda core: (core, core), lambda core: ((core, self.WEIGHTS),),
                     lambda core: [core], lambda core: {"a": core}, lambda core: ((0, 1, 2), core)):
            for deep in (15, 29, 30):
                self.no(self.TABLE, nested((), wrap, deep), nested(((0, 1, 2), self.WEIGHTS), wrap, deep - 2))

    def test_against_the_words_of_the_document(self):
        chance = random.Random(121)
        told = []
        for _ in range(4000):
            states = chance.randint(2, 6)
            table = falling_table(chance, states, chance.randint(1, 8))
            layers = drawn_layers(chance, table)
            if chance.random() < 0.9:
                layers = tuple((numbers, tuple(range(states))) for numbers, _ in layers)
            told.append((len(layers), shows_layers(table, layers)))
            self.assertIs(told[-1][1], are_right(table, layers))
        for right in (True, False):
            self.assertGreater(sum(told.count((many, right)) for many in (2, 3, 4)), 500)

    def test_weights_against_the_words_of_the_document(self):
        chance = random.Random(122)
        told = []
        for _ in range(1500):
            table = some_table(chance, chance.randint(2, 4), chance.randint(1, 3))
            layers = drawn_layers(chance, table)
            told.append(shows_layers(table, layers))
            self.assertIs(told[-1], are_right(table, layers))
        self.assertGreater(told.count(True), 100)
        self.assertGreater(told.count(False), 100)

    def test_nothing_is_changed_and_the_same_is_told_again(self):
        thing = ([[0, 1, 2], [0, 1, 2]], {"a": [1]})
        ahead = copy.deepcopy((self.TABLE, thing))
        self.no(self.TABLE, thing, thing)
        self.assertEqual((self.TABLE, thing), ahead)


if __name__ == "__main__":
    unittest.main()
