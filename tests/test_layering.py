import copy
import random
import unittest

from strangersay.errors import TooMany
from strangersay.layering import layers_made, resting
from strangersay.layers import shows_layers
from strangersay.making import made
from strangersay.sayings import sorts_of
from strangersay.tables import can_meet, first_crowd, is_table, table_done, table_stirs
from strangersay.truths import is_true
from tests.draws import drawn_layers, falling_table, small_sayings, some_saying
from tests.samples import BOTH, EVEN, REST, SIXTY, SIXTY_ONE, SOME, SUM


def simple_sayings():
    """All simple ones of one sort with small numbers, and some of two and three."""
    found = [("sum", (worth,), bound) for worth in (-9, -2, -1, 0, 1, 2, 9) for bound in (-20, -3, -1, 0, 1, 2, 5, 20)]
    found += [("rest", (worth,), rest, divisor) for worth in (-4, -1, 0, 1, 2, 3, 6) for divisor in range(2, 10)
              for rest in (0, 1, divisor - 1)]
    found += [("sum", worths, bound) for worths in ((1, -1), (2, -3), (0, 1), (1, 1, -2)) for bound in (-2, 0, 1, 3)]
    return found + [("rest", worths, 1, divisor) for worths in ((1, -1), (1, 2, 0)) for divisor in (2, 3, 6)]


def joined_sayings():
    """Sayings that are joined of others and can be made."""
    first, second = ("sum", (1, -1), 0), ("rest", (1, 1), 1, 2)
    small = ("sum", (0, 1), 0)
    yield from (("not", first), ("and", first, second), ("or", second, first), ("not", ("and", second, ("not", second))),
                ("or", ("and", first, second), ("not", small)), ("and", small, ("or", second, ("rest", (0, 1), 0, 2))),
                ("and", ("sum", (1, -1), 0), ("sum", (1, -1), 1)), ("or", EVEN, SOME), SIXTY)


class LayersMadeTest(unittest.TestCase):
    def right(self, saying):
        ahead = copy.deepcopy(saying)
        layers = layers_made(saying)
        self.assertIs(shows_layers(made(saying), layers), True, saying)
        self.assertEqual(saying, ahead)
        self.assertEqual(layers_made(saying), layers)

    def test_of_simple_ones(self):
        for saying in simple_sayings():
            try:
                made(saying)
            except TooMany:
                self.assertRaises(TooMany, layers_made, saying)
            else:
                self.right(saying)

    def test_of_joined_ones(self):
        for saying in (*joined_sayings(), SUM, REST, ("not", SUM)):
            self.right(saying)

    def test_of_drawn_ones(self):
        for saying in small_sayings():
            self.right(saying)

    def test_of_several_simple_ones(self):
        chance = random.Random(131)
        three = 0
        for _ in range(400):
            saying = some_saying(chance, simple_ones=3)
            try:
                made(saying)
            except TooMany:
                continue
            self.right(saying)
            three += 1
        self.assertGreater(three, 10)

    def test_a_made_table_always_has_rows(self):
        # of two fresh ones the second doesn't lead any more: so there are layers, too
        for saying in (("sum", (0,), 0), ("rest", (0,), 0, 2), *small_sayings()[:20]):
            table = made(saying)
            first = table[2][0]
            self.assertIn((first, first), [row[:2] for row in table[4]])
            self.assertNotEqual(layers_made(saying), ())

    def test_as_many_as_there_may_be(self):
        self.right(SIXTY)
        for saying in (SIXTY_ONE, ("sum", (9, -8), 20), ("or", BOTH, ("sum", (9, -8), 20))):
            self.assertRaises(TooMany, layers_made, saying)


class RestingTest(unittest.TestCase):
    def rests(self, table, layers, crowd):
        """The row leads to rest, by meetings of the first layer of which one can be done there."""
        self.assertIs(shows_layers(table, layers), True)
        ahead = copy.deepcopy((table, layers, crowd))
        row = resting(table, layers, crowd)
        self.assertEqual((table, layers, crowd), ahead)
        self.assertEqual(resting(table, layers, crowd), row)
        there = crowd
        for times, meetings in row:
            for pair in meetings * times:
                self.assertIn(pair, self.first_pairs(table, layers, there))
                there = table_done(table, there, ((1, (pair,)),))
        self.assertEqual(table_done(table, crowd, row), there)
        self.assertEqual(table_stirs(table, there), ())
        self.assertEqual(row == (), table_stirs(table, crowd) == ())
        return there

    def first_pairs(self, table, layers, crowd):
        """The pairs of the first layer of which a row can be done."""
        for numbers, _ in layers:
            pairs = [table[4][number][:2] for number in numbers]
            if any(can_meet(crowd, *pair) for pair in pairs):
                return pairs
        return []

    def test_by_hand(self):
        table = ("table", 3, (0,), (True,) * 3, ((0, 0, 0, 1), (0, 1, 0, 2)))
        apart = (((0,), (1, 0, 0)), ((1,), (1, 2, 1)))
        self.assertEqual(self.rests(table, apart, (4, 1, 0)), (1, 0, 4))
        self.assertEqual([pair for _, (pair,) in resting(table, apart, (3, 0, 0))], [(0, 0), (0, 0), (0, 1), (0, 1)])
        self.assertEqual(self.rests(table, (((0, 1), (2, 1, 0)),), (4, 1, 0)), (1, 0, 4))

    def test_where_nothing_can_be_done(self):
        table = made(EVEN)
        layers = layers_made(EVEN)
        for crowd in ((0, 0, 0, 0), (0, 0, 0, 1), (0, 0, 1, 0), (5, 5, 0, 0), (7, 0, 0, 1), (0, 60, 0, 0)):
            self.assertEqual(resting(table, layers, crowd), ())
        self.assertEqual(resting(("table", 2, (0,), (True, True), ()), (), (30, 30)), ())
        self.assertEqual(resting(("table", 2, (0,), (True, True), ((0, 0, 0, 1),)), (((0,), (1, 0)),), (1, 59)), ())

    def test_layer_by_layer(self):
        # a layer behind gives what none ahead takes; each is done while those ahead rest
        table = ("table", 4, (0,), (True,) * 4, ((0, 0, 0, 1), (1, 1, 1, 2), (2, 2, 2, 3)))
        layers = (((0,), (1, 0, 0, 0)), ((1,), (0, 1, 0, 0)), ((2,), (0, 0, 1, 0)))
        self.assertEqual(self.rests(table, layers, (60, 0, 0, 0)), (1, 1, 1, 57))
        self.assertEqual(self.rests(table, layers, (0, 2, 3, 0)), (0, 1, 1, 3))

    def test_of_made_tables(self):
        chance = random.Random(132)
        for saying in (*small_sayings(), *joined_sayings()):
            table, layers = made(saying), layers_made(saying)
            counts = [0] * sorts_of(saying)
            for _ in range(chance.choice((2, 5, 20, 60))):
                counts[chance.randrange(len(counts))] += 1
            there = self.rests(table, layers, first_crowd(table, tuple(counts)))
            said = {word for word, many in zip(table[3], there) if many}
            self.assertEqual(said, {is_true(saying, tuple(counts))})

    def test_from_any_crowd_of_a_made_table(self):
        chance = random.Random(133)
        for saying in (EVEN, SOME, SUM, REST, *joined_sayings()):
            table, layers = made(saying), layers_made(saying)
            for many in (1, 3, 60):
                crowd = [0] * table[1]
                for _ in range(many):
                    crowd[chance.randrange(table[1])] += 1
                self.rests(table, layers, tuple(crowd))

    def test_of_drawn_tables_and_layers(self):
        chance = random.Random(134)
        several = 0
        for _ in range(1500):
            states = chance.randint(2, 6)
            table = falling_table(chance, states, chance.randint(0, 8))
            self.assertIs(is_table(table), True)
            layers = tuple((numbers, tuple(range(states))) for numbers, _ in drawn_layers(chance, table))
            if shows_layers(table, layers):
                several += len(layers) > 1
                crowd = [0] * states
                for _ in range(chance.choice((1, 4, 12, 60))):
                    crowd[chance.randrange(states)] += 1
                self.rests(table, layers, tuple(crowd))
        self.assertGreater(several, 200)

    def test_where_the_first_row_first_would_take_too_long(self):
        # one in a state parts into two in the state below, beside one in the lowest
        rows = tuple((state, 0, state - 1, state - 1) for state in range(1, 60))
        table = ("table", 60, (59,), (True,) * 60, rows)
        layers = ((tuple(range(59)), tuple(2 ** (state + 1) - 1 for state in range(60))),)
        self.rests(table, layers, (59,) + (0,) * 58 + (1,))


if __name__ == "__main__":
    unittest.main()
