import copy
import random
import unittest

from strangersay.errors import NoMeeting
from strangersay.tables import first_crowd, is_table, table_done, table_stirs
from tests.samples import Agreeing, AnswersTest, nested, odd_things

GREAT = 10 ** 30 - 1
# two of state 0 are one of 1 and one of 2; 1 and 2 change places; 2 takes 0 with it
ROWS = ((0, 0, 1, 2), (1, 2, 2, 1), (2, 0, 2, 2))
TABLE = ("table", 3, (0, 1), (True, False, False), ROWS)


def with_rows(*rows, many=3):
    return ("table", many, (0,), (True,) * many, rows)


class IsTableTest(AnswersTest):
    def yes(self, *things):
        self.answers(True, is_table, *things)

    def no(self, *things):
        self.answers(False, is_table, *things)

    def test_ordinary(self):
        self.yes(TABLE, with_rows(), with_rows((0, 1, 1, 1)), ("table", 1, (0,), (True,), ()))

    def test_anything_is_answered_by_a_truth(self):
        self.no(*odd_things())
        self.no(*[nested((), wrap, 30) for wrap in (lambda core: ("table", 1, core, core, core), lambda core: (core,),
                                                   lambda core: ("table", core, (0,), (True,), ()))])

    def test_anything_as_a_part(self):
        for thing in odd_things():
            self.no(("table", thing, (0, 1), (True, False, False), ROWS),
                    ("table", 3, thing, (True, False, False), ROWS),
                    ("table", 3, (0, 1), thing, ROWS), ("table", 3, (0, 1), (True, False, False), thing),
                    (thing, 3, (0, 1), (True, False, False), ROWS), with_rows(thing), with_rows((0, 0, 1, 1), thing))
            if isinstance(thing, bool) or not isinstance(thing, int):
                self.no(("table", 3, (thing,), (True, False, False), ROWS), with_rows((thing, 0, 1, 1)),
                        with_rows((0, thing, 1, 1)), with_rows((0, 0, thing, 1)), with_rows((0, 0, 1, thing)))
            if not isinstance(thing, bool):
                self.no(("table", 3, (0, 1), (True, thing, False), ROWS))

    def test_how_many_states(self):
        for many in (1, 2, 59, 60):
            self.yes(("table", many, (many - 1,), (True,) * many, ()))
        for many in (0, -1, 61, 62, GREAT, -GREAT):
            self.no(("table", many, (0,), (True,) * max(0, min(many, 100)), ()))
        self.no(("table", True, (0,), (True,), ()), ("table", False, (), (), ()), ("table", "1", (0,), (True,), ()),
                ("table", None, (0,), (True,), ()), ("table", (1,), (0,), (True,), ()))

    def test_firsts(self):
        for many in range(1, 7):
            self.yes(("table", 2, (1,) * many, (True, False), ()))
        for firsts in ((), (0,) * 7, (2,), (-1,), (0, 2), (True,), (0, False), (None,), ("0",), [0], (0, [1]),
                       (GREAT,)):
            self.no(("table", 2, firsts, (True, False), ()))

    def test_words(self):
        for words in ((True, True), (False, False), (False, True)):
            self.yes(("table", 2, (0,), words, ()))
        for words in ((), (True,), (True, False, True), (1, 0), (True, 0), (1, False), (True, None), ("y", "n"),
                      [True, False], (True, [False]), (True, Agreeing())):
            self.no(("table", 2, (0,), words, ()))

    def test_rows_rise(self):
        self.yes(with_rows((0, 0, 1, 1), (0, 1, 1, 1), (1, 0, 1, 1), (2, 2, 0, 0)))
        self.no(with_rows((0, 1, 1, 1), (0, 0, 1, 1)), with_rows((1, 0, 1, 1), (0, 1, 1, 1)),
                with_rows((0, 0, 1, 1), (1, 1, 0, 0), (0, 1, 1, 1)))

    def test_a_pair_twice(self):
        self.no(with_rows((0, 0, 1, 1), (0, 0, 1, 1)), with_rows((0, 0, 1, 1), (0, 0, 1, 2)),
                with_rows((0, 1, 1, 1), (0, 1, 2, 0), (1, 1, 0, 0)),
                with_rows((0, 0, 1, 1), (1, 1, 0, 0), (1, 1, 2, 2)))
        self.yes(with_rows((0, 1, 1, 1), (1, 0, 1, 1)))

    def test_what_they_are_then(self):
        self.no(with_rows((0, 1, 0, 1)), with_rows((2, 0, 2, 0)), with_rows((1, 1, 1, 1)),
                with_rows((0, 0, 1, 1), (1, 2, 1, 2)))
        self.yes(with_rows((0, 1, 1, 0)), with_rows((2, 0, 0, 2)), with_rows((0, 1, 0, 0)), with_rows((0, 1, 1, 1)))

    def test_numbers_in_rows(self):
        for wrong in (3, -1, GREAT, True, False, None, "0", (0,), [0]):
            self.no(with_rows((wrong, 0, 1, 1)), with_rows((0, wrong, 1, 2)), with_rows((0, 0, wrong, 1)),
                    with_rows((0, 0, 1, wrong)))
        self.yes(with_rows((2, 2, 0, 0)), with_rows((0, 0, 2, 2)))
        self.no(with_rows((2, 2, 0, 0), many=2), with_rows((0, 0, 2, 2), many=2))

    def test_forms(self):
        self.no((), ("table",), ("table", 1, (0,), (True,)), ("table", 1, (0,), (True,), (), ()), list(TABLE),
                ("tables", 1, (0,), (True,), ()), (b"table", 1, (0,), (True,), ()), (1, (0,), (True,), ()),
                with_rows((0, 0, 1)), with_rows((0, 0, 1, 1, 1)), with_rows(()), with_rows([0, 0, 1, 1]),
                ("table", 1, (0,), (True,), []), ("table", 1, (0,), (True,), None), ("table", 1, (0,), (True,), ""))

    def test_nothing_is_changed(self):
        thing = ("table", 3, [0], [True], [[0, 0, 1, 1]])
        ahead = copy.deepcopy(thing)
        self.no(thing, thing)
        self.assertEqual(thing, ahead)


class FirstCrowdTest(unittest.TestCase):
    def test_ordinary(self):
        self.assertEqual(first_crowd(TABLE, (5, 7)), (5, 7, 0))
        self.assertEqual(first_crowd(TABLE, (0, 0)), (0, 0, 0))
        self.assertEqual(first_crowd(TABLE, (GREAT, 1)), (GREAT, 1, 0))
        self.assertEqual(first_crowd(("table", 4, (3, 0), (True,) * 4, ()), (5, 7)), (7, 0, 0, 5))

    def test_two_sorts_with_one_first_state(self):
        self.assertEqual(first_crowd(("table", 3, (1, 1), (True,) * 3, ()), (5, 7)), (0, 12, 0))
        self.assertEqual(first_crowd(("table", 3, (1, 2, 1, 1, 2, 1), (True,) * 3, ()), (1, 10, 100, 1000, 10000, 0)),
                         (0, 1101, 10010))
        self.assertEqual(first_crowd(("table", 1, (0, 0), (True,), ()), (GREAT, GREAT)), (2 * GREAT,))


def one_by_one(table, crowd, row):
    """What table_done tells, or the number of the part that can't be done, by single meetings."""
    there = [state for state, many in enumerate(crowd) for _ in range(many)]
    for at, (times, meetings) in enumerate(row):
        for one, other in list(meetings) * times:
            for state in (one, other):
                if state not in there:
                    return at
                there.remove(state)
            there += next((row[2:] for row in table[4] if row[:2] == (one, other)), (one, other))
    return tuple(there.count(state) for state in range(table[1]))


def some_table(chance):
    many = chance.randint(1, 6)
    rows = {}
    for _ in range(chance.randint(0, 12)):
        pair, then = [tuple(chance.randrange(many) for _ in range(2)) for _ in range(2)]
        if pair != then:
            rows[pair] = then
    return ("table", many, (chance.randrange(many),), tuple(chance.random() < 0.5 for _ in range(many)),
            tuple((*pair, *rows[pair]) for pair in sorted(rows)))


class TableDoneTest(unittest.TestCase):
    def refused(self, at, table, crowd, row):
        ahead = copy.deepcopy((table, crowd, row))
        with self.assertRaises(NoMeeting) as caught:
            table_done(table, crowd, row)
        self.assertEqual(caught.exception.at, at)
        self.assertEqual((table, crowd, row), ahead)

    def test_nothing_to_do(self):
        for crowd in ((0, 0, 0), (1, 2, 3), (GREAT, GREAT, GREAT)):
            self.assertEqual(table_done(TABLE, crowd, ()), crowd)

    def test_one_meeting(self):
        self.assertEqual(table_done(TABLE, (2, 0, 0), ((1, ((0, 0),)),)), (0, 1, 1))
        self.assertEqual(table_done(TABLE, (1, 0, 1), ((1, ((2, 0),)),)), (0, 0, 2))
        self.assertEqual(table_done(TABLE, (0, 1, 1), ((1, ((1, 2),)),)), (0, 1, 1))

    def test_one_state_with_itself_wants_two(self):
        self.refused(0, TABLE, (0, 5, 5), ((1, ((0, 0),)),))
        self.refused(0, TABLE, (1, 5, 5), ((1, ((0, 0),)),))
        self.refused(0, TABLE, (3, 0, 0), ((2, ((0, 0),)),))
        self.assertEqual(table_done(TABLE, (4, 0, 0), ((2, ((0, 0),)),)), (0, 2, 2))

    def test_a_pair_without_a_row_changes_nothing_but_has_to_be_there(self):
        for times in (1, 2, GREAT):
            row = ((times, ((0, 1), (1, 0), (2, 2), (0, 2), (2, 1))),)
            self.assertEqual(table_done(TABLE, (1, 1, 2), row), (1, 1, 2))
            self.refused(0, TABLE, (1, 0, 2), ((times, ((0, 1),)),))
            self.refused(0, TABLE, (1, 1, 1), ((times, ((2, 2),)),))
            self.refused(0, TABLE, (5, 1, 5), ((times, ((1, 1),)),))

    def test_in_the_order_told(self):
        self.assertEqual(table_done(TABLE, (1, 0, 1), ((1, ((0, 2),)),)), (1, 0, 1))
        self.assertEqual(table_done(TABLE, (1, 0, 1), ((1, ((2, 0),)),)), (0, 0, 2))

    def test_rounds_of_several(self):
        self.assertEqual(table_done(TABLE, (4, 0, 0), ((1, ((0, 0), (2, 0), (2, 0))),)), (0, 1, 3))
        self.refused(0, TABLE, (4, 0, 0), ((1, ((2, 0), (0, 0), (2, 0))),))
        self.refused(0, TABLE, (3, 0, 0), ((1, ((0, 0), (2, 0), (2, 0))),))

    def test_the_number_of_the_first_part_that_cant_be_done(self):
        good, bad = (1, ((0, 0),)), (1, ((1, 1),))
        self.refused(1, TABLE, (9, 0, 0), (good, bad, bad))
        self.refused(4, TABLE, (9, 0, 0), ((1, ((0, 0),)),) * 6)
        self.refused(2, TABLE, (9, 0, 0), (good, (3, ((0, 0),)), good))

    def test_parts_of_thirty_figures(self):
        self.assertEqual(table_done(TABLE, (2 * GREAT, 0, 0), ((GREAT, ((0, 0),)),)), (0, GREAT, GREAT))
        self.refused(0, TABLE, (2 * GREAT - 1, 0, 0), ((GREAT, ((0, 0),)),))
        self.assertEqual(table_done(TABLE, (GREAT, 0, 1), ((GREAT, ((2, 0),)),)), (0, 0, GREAT + 1))
        self.refused(0, TABLE, (GREAT - 1, 0, 1), ((GREAT, ((2, 0),)),))
        self.refused(0, TABLE, (GREAT, 0, 0), ((GREAT, ((2, 0),)),))
        self.refused(1, TABLE, (GREAT, 0, 1), ((GREAT - 1, ((2, 0),)), (2, ((2, 0),))))

    def test_what_it_is_one_by_one(self):
        chance = random.Random(71)
        refusals = 0
        for _ in range(500):
            table = some_table(chance)
            self.assertIs(is_table(table), True)
            crowd = tuple(chance.randint(0, 4) for _ in range(table[1]))
            row = tuple((chance.randint(1, 3), tuple(tuple(chance.randrange(table[1]) for _ in range(2))
                                                     for _ in range(chance.randint(1, 3))))
                        for _ in range(chance.randint(0, 3)))
            wanted = one_by_one(table, crowd, row)
            if isinstance(wanted, int):
                refusals += 1
                self.refused(wanted, table, crowd, row)
            else:
                self.assertEqual(table_done(table, crowd, row), wanted)
        self.assertTrue(50 < refusals < 450)


class TableStirsTest(unittest.TestCase):
    def test_ordinary(self):
        self.assertEqual(table_stirs(TABLE, (2, 1, 1)), ((0, 0), (1, 2), (2, 0)))
        self.assertEqual(table_stirs(TABLE, (1, 1, 1)), ((1, 2), (2, 0)))
        self.assertEqual(table_stirs(TABLE, (1, 0, 1)), ((2, 0),))
        self.assertEqual(table_stirs(TABLE, (0, 9, 0)), ())
        self.assertEqual(table_stirs(TABLE, (0, 0, 9)), ())
        self.assertEqual(table_stirs(TABLE, (1, 9, 0)), ())
        self.assertEqual(table_stirs(TABLE, (0, 0, 0)), ())
        self.assertEqual(table_stirs(TABLE, (GREAT, GREAT, GREAT)), ((0, 0), (1, 2), (2, 0)))
        self.assertEqual(table_stirs(with_rows(), (5, 5, 5)), ())

    def test_as_told_of_each_row(self):
        chance = random.Random(72)
        for _ in range(200):
            table = some_table(chance)
            crowd = tuple(chance.randint(0, 2) for _ in range(table[1]))
            there = [state for state, many in enumerate(crowd) for _ in range(many)]
            pairs = {(one, other) for at, one in enumerate(there) for k, other in enumerate(there) if at != k}
            self.assertEqual(table_stirs(table, crowd), tuple(row[:2] for row in table[4] if row[:2] in pairs))


if __name__ == "__main__":
    unittest.main()
