import copy
import itertools
import random
import unittest

from strangersay.ends import ends
from strangersay.errors import TooMany
from strangersay.making import made
from strangersay.sayers import least_wrong, says_at
from strangersay.sayings import sorts_of
from strangersay.tables import first_crowd, is_table
from strangersay.truths import is_true
from tests.draws import small_sayings, some_table
from tests.samples import EVEN, SOME

ALWAYS = ("sum", (0,), 0)
NEVER = ("sum", (0,), 1)
MORE = ("sum", (1, -1), 1)
SIX = ("sum", (1, 0, 0, 0, 0, 0), 1)


def still(words, sorts=1):
    """A table without rows, each sort in a state of its own, as long as there are some."""
    return ("table", len(words), tuple(min(sort, len(words) - 1) for sort in range(sorts)), words, ())


def counts_in_order(sorts, most):
    every = itertools.product(range(most + 1), repeat=sorts)
    return sorted((counts for counts in every if sum(counts) <= most), key=lambda counts: (sum(counts), counts))


def says_by_ends(table, saying, counts):
    """What says_at tells, by the words that are heard in the ends."""
    heard = {word for room in ends(table, first_crowd(table, counts)) for crowd in room
             for word, many in zip(table[3], crowd) if many}
    return heard <= {is_true(saying, counts)}


def first_wrong(table, saying, most):
    for counts in counts_in_order(sorts_of(saying), most):
        if not says_by_ends(table, saying, counts):
            return counts
    return None


class SaysAtTest(unittest.TestCase):
    def test_of_made_tables(self):
        for saying in small_sayings()[:40]:
            table = made(saying)
            for counts in counts_in_order(sorts_of(saying), 2 if sorts_of(saying) > 3 else 3):
                self.assertIs(says_at(table, saying, counts), True)
                # what says it says no other one
                self.assertIs(says_at(table, ("not", saying), counts), sum(counts) == 0)

    def test_with_one_word_otherwise(self):
        table = made(EVEN)
        for state, wrong in ((0, (3, 5)), (1, (2, 4)), (2, (2, 4)), (3, (1, 3, 5))):
            words = tuple(word != (at == state) for at, word in enumerate(table[3]))
            other = ("table", *table[1:3], words, table[4])
            self.assertEqual(tuple(many for many in range(6) if not says_at(other, EVEN, (many,))), wrong)

    def test_with_one_row_otherwise(self):
        table = made(EVEN)
        # two odd ones are odd together
        rows = tuple((3, 3, 3, 0) if row[:2] == (3, 3) else row for row in table[4])
        self.assertNotEqual(rows, table[4])
        other = ("table", *table[1:4], rows)
        self.assertIs(is_table(other), True)
        self.assertEqual([says_at(other, EVEN, (many,)) for many in range(5)], [True, True, False, True, False])
        # without the row for who says no still and meets an even one, each by its second place
        rows = tuple(row for row in table[4] if row[:2] not in ((2, 0), (0, 2)))
        other = ("table", *table[1:4], rows)
        self.assertEqual([says_at(other, EVEN, (many,)) for many in range(5)], [True, True, True, True, False])

    def test_one_crowd_of_a_room(self):
        # two go round by three states; only all words alike are right
        rows = ((0, 0, 1, 1), (1, 1, 2, 2), (2, 2, 0, 0))
        for words, right in (((True,) * 3, True), ((True, True, False), False), ((False, True, True), False),
                             ((True, False, True), False), ((False,) * 3, False)):
            self.assertIs(says_at(("table", 3, (0,), words, rows), ALWAYS, (2,)), right)
        self.assertIs(says_at(("table", 3, (0,), (False,) * 3, rows), NEVER, (2,)), True)
        # one alone stays where it is
        self.assertIs(says_at(("table", 3, (0,), (True, False, False), rows), ALWAYS, (1,)), True)

    def test_one_room_of_several(self):
        parting = ((0, 1, 2, 2), (1, 0, 3, 3))
        for words, right in (((False, False, True, True), True), ((False, False, True, False), False),
                             ((False, False, False, True), False), ((False, False, False, False), False)):
            table = ("table", 4, (0, 1), words, parting)
            self.assertIs(says_at(table, ("sum", (0, 0), 0), (1, 1)), right)

    def test_one_of_many_in_a_crowd(self):
        table = still((True, False), sorts=2)
        always = ("sum", (0, 0), 0)
        self.assertIs(says_at(table, always, (10 ** 29, 0)), True)
        self.assertIs(says_at(table, always, (10 ** 29, 1)), False)
        self.assertIs(says_at(table, always, (0, 1)), False)
        self.assertIs(says_at(table, ("not", always), (0, 1)), True)

    def test_what_is_said_ahead_of_the_end_does_not_matter(self):
        table = ("table", 2, (0,), (False, True), ((0, 0, 1, 1), (0, 1, 1, 1)))
        self.assertEqual([says_at(table, ALWAYS, (many,)) for many in range(6)], [True, False] + [True] * 4)

    def test_of_nobody(self):
        for table in (still((True,)), still((False,)), made(EVEN)):
            for saying in (ALWAYS, NEVER, EVEN, SOME):
                self.assertIs(says_at(table, saying, (0,)), True)

    def test_too_many(self):
        falling = ("table", 2, (0,), (True, True), ((0, 0, 0, 1),))
        self.assertIs(says_at(falling, ALWAYS, (2000,)), True)
        self.assertIs(says_at(falling, NEVER, (2000,)), False)
        for saying in (ALWAYS, NEVER):
            self.assertRaises(TooMany, says_at, falling, saying, (2001,))

    def test_of_drawn_tables(self):
        chance = random.Random(111)
        told = []
        for _ in range(300):
            table = some_table(chance, chance.randint(1, 4), chance.randint(0, 8), sorts=2)
            saying = chance.choice((MORE, ("sum", (0, 0), 0), ("rest", (1, 1), 0, 2)))
            counts = (chance.randint(0, 3), chance.randint(0, 2))
            ahead = copy.deepcopy((table, saying, counts))
            told.append(says_at(table, saying, counts))
            self.assertIs(told[-1], says_by_ends(table, saying, counts))
            self.assertEqual((table, saying, counts), ahead)
        self.assertGreater(told.count(True), 30)
        self.assertGreater(told.count(False), 30)


class LeastWrongTest(unittest.TestCase):
    def test_none_of_made_tables(self):
        for saying in small_sayings()[:30]:
            self.assertIsNone(least_wrong(made(saying), saying, 2 if sorts_of(saying) > 3 else 4))
        self.assertIsNone(least_wrong(made(EVEN), EVEN, 5))
        self.assertIsNone(least_wrong(made(MORE), MORE, 5))

    def test_most(self):
        # all say no; so do five or more no more
        for bound in range(1, 6):
            saying = ("sum", (1,), bound)
            for most in range(6):
                self.assertEqual(least_wrong(still((False,)), saying, most), (bound,) if bound <= most else None)
        for table in (still((True,)), still((False,))):
            self.assertIsNone(least_wrong(table, NEVER, 0))
            self.assertIsNone(least_wrong(table, ALWAYS, 0))

    def test_the_order(self):
        no = still((False,), sorts=3)
        for worths, bound, least in (((1, 1, 1), 1, (0, 0, 1)), ((1, 1, 0), 1, (0, 1, 0)), ((1, 0, 0), 1, (1, 0, 0)),
                                     ((1, 1, 1), 2, (0, 0, 2)), ((1, 1, 0), 2, (0, 2, 0)), ((1, 0, 0), 2, (2, 0, 0)),
                                     ((1, 2, 0), 3, (0, 2, 0)), ((2, 1, 0), 3, (1, 1, 0)), ((2, 1, 1), 3, (1, 0, 1)),
                                     ((1, 1, 2), 5, (0, 0, 3)), ((3, 1, 1), 5, (2, 0, 0))):
            self.assertEqual(least_wrong(no, ("sum", worths, bound), 5), least)
        # fewer together come ahead, though they rise behind
        self.assertEqual(least_wrong(no, ("sum", (3, 0, 1), 3), 5), (1, 0, 0))

    def test_of_six_sorts(self):
        self.assertEqual(least_wrong(still((False,), sorts=6), SIX, 5), (1, 0, 0, 0, 0, 0))
        self.assertIsNone(least_wrong(made(SIX), SIX, 3))
        saying = ("sum", (1, 1, 1, 1, 1, 1), 5)
        self.assertEqual(least_wrong(still((False,), sorts=6), saying, 5), (0, 0, 0, 0, 0, 5))
        self.assertIsNone(least_wrong(still((False,), sorts=6), saying, 4))

    def test_a_table_of_another_saying(self):
        self.assertEqual(least_wrong(made(EVEN), SOME, 5), (1,))
        self.assertEqual(least_wrong(made(("sum", (1,), 2)), ("sum", (1,), 3), 5), (2,))
        self.assertEqual(least_wrong(made(("sum", (1, -1), 0)), MORE, 5), (1, 1))
        self.assertEqual(least_wrong(made(("not", EVEN)), EVEN, 5), (1,))
        self.assertEqual(least_wrong(made(("rest", (1,), 1, 4)), ("rest", (1,), 1, 3), 5), (4,))
        self.assertIsNone(least_wrong(made(("rest", (1,), 1, 4)), ("rest", (1,), 1, 3), 3))
        # the same told otherwise
        self.assertIsNone(least_wrong(made(("not", EVEN)), ("rest", (1,), 1, 2), 5))

    def test_one_word_otherwise(self):
        table = made(EVEN)
        for state, least in ((0, (3,)), (1, (2,)), (2, (2,)), (3, (1,))):
            words = tuple(word != (at == state) for at, word in enumerate(table[3]))
            self.assertEqual(least_wrong(("table", *table[1:3], words, table[4]), EVEN, 5), least)

    def test_too_many_ahead_of_a_wrong_one(self):
        table = wide_table()
        self.assertRaises(TooMany, says_at, table, ("sum", (0, 0), 0), (0, 3))
        self.assertIs(says_at(table, ("sum", (0, 0), 0), (0, 2)), True)
        # all say yes: so of these the first wrong one is at three of sort 0, or at four, together
        for most in (3, 4, 5):
            self.assertRaises(TooMany, least_wrong, table, ("sum", (0, 0), 0), most)
            self.assertRaises(TooMany, least_wrong, table, ("not", ("sum", (1, 0), 3)), most)
            self.assertRaises(TooMany, least_wrong, table, ("not", ("sum", (1, 1), 4)), most)
        for most in (0, 1, 2):
            self.assertIsNone(least_wrong(table, ("sum", (0, 0), 0), most))

    def test_too_many_behind_a_wrong_one(self):
        table = wide_table()
        for most in (2, 3, 5):
            self.assertEqual(least_wrong(table, ("not", ("sum", (1, 0), 2)), most), (2, 0))
            self.assertEqual(least_wrong(table, ("not", ("sum", (0, 1), 2)), most), (0, 2))
            self.assertEqual(least_wrong(table, ("sum", (0, 0), 1), most), (0, 1))

    def test_of_drawn_tables(self):
        chance = random.Random(112)
        told = []
        for _ in range(200):
            table = some_table(chance, chance.randint(1, 4), chance.randint(0, 8), sorts=2)
            saying = chance.choice((("sum", (0, 0), 0), ("sum", (1, 1), 2), ("sum", (1, 1), 3), ("rest", (1, 1), 0, 2)))
            if chance.random() < 0.5:
                # all alike, so that somewhat more is right
                table = (*table[:3], (False,) * table[1], table[4])
            most = chance.randint(0, 4)
            ahead = copy.deepcopy((table, saying))
            told.append(least_wrong(table, saying, most))
            self.assertEqual(told[-1], first_wrong(table, saying, most))
            self.assertEqual((table, saying), ahead)
        self.assertGreater(told.count(None), 20)
        self.assertGreater(len(set(told)), 4)


def wide_table():
    """A table of two sorts where three of sort 1 can be in more than 2000 crowds, and all say yes."""
    # each steps on by itself, as another one is there: three are in some of 22 states, without names
    rows = tuple((p, q, (p + 1) % 22, q) for p in range(22) for q in range(22))
    return ("table", 23, (22, 0), (True,) * 23, rows)


if __name__ == "__main__":
    unittest.main()
