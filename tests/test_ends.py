import copy
import random
import unittest

from strangersay.ends import ends, reached
from strangersay.errors import NoMeeting, TooMany
from strangersay.making import made
from strangersay.sayings import sorts_of
from strangersay.tables import first_crowd, is_table, table_done, table_stirs
from strangersay.truths import is_true
from tests.draws import small_sayings, some_table
from tests.samples import EVEN

GREAT = 10 ** 30 - 1


def with_rows(*rows, many=3):
    return ("table", many, (0,), (True,) * many, rows)


# of two in state 0 the second goes to 1: so many crowds are reached as members are there
FALLING = with_rows((0, 0, 0, 1), many=2)
# two of state 0 go round by 1 and 2, both at once
ROUND = with_rows((0, 0, 1, 1), (1, 1, 2, 2), (2, 2, 0, 0))
# one of each goes off to 2 together, or to 3 together; who is there can't go again
PARTING = with_rows((0, 1, 2, 2), (1, 0, 3, 3), many=4)


def one_meeting_on(table, crowd):
    """The crowds that one meeting leads to, by trying each pair."""
    found = set()
    for p in range(table[1]):
        for q in range(table[1]):
            try:
                found.add(table_done(table, crowd, ((1, ((p, q),)),)))
            except NoMeeting:
                pass
    return found


def all_on(table, crowd):
    found, fresh_ones = {crowd}, {crowd}
    while fresh_ones:
        fresh_ones = {behind for ahead in fresh_ones for behind in one_meeting_on(table, ahead)} - found
        found |= fresh_ones
    return found


def all_rooms(table, crowd):
    """What ends tells: those that each crowd they lead to leads back to."""
    on = {ahead: all_on(table, ahead) for ahead in all_on(table, crowd)}
    rooms = {tuple(sorted(on[ahead])) for ahead in on if all(ahead in on[behind] for behind in on[ahead])}
    return tuple(sorted(rooms))


def drawn_cases(seed, many):
    """Drawn tables with drawn crowds of few."""
    chance = random.Random(seed)
    for _ in range(many):
        states = chance.randint(1, 5)
        table = some_table(chance, states, chance.choice((0, 1, 2, 4, 8, 16)))
        crowd = [0] * states
        for _ in range(chance.randint(0, 4)):
            crowd[chance.randrange(states)] += 1
        yield table, tuple(crowd)


class ReachedTest(unittest.TestCase):
    def test_without_rows(self):
        for crowd in ((0,), (1,), (5,), (GREAT,)):
            self.assertEqual(reached(("table", 1, (0,), (True,), ()), crowd), (crowd,))
        self.assertEqual(reached(with_rows(), (4, 0, GREAT)), ((4, 0, GREAT),))

    def test_by_hand(self):
        self.assertEqual(reached(FALLING, (4, 0)), ((1, 3), (2, 2), (3, 1), (4, 0)))
        self.assertEqual(reached(FALLING, (2, 7)), ((1, 8), (2, 7)))
        self.assertEqual(reached(ROUND, (2, 0, 0)), ((0, 0, 2), (0, 2, 0), (2, 0, 0)))
        self.assertEqual(reached(PARTING, (2, 2, 0, 0)),
                         ((0, 0, 0, 4), (0, 0, 2, 2), (0, 0, 4, 0), (1, 1, 0, 2), (1, 1, 2, 0), (2, 2, 0, 0)))
        self.assertEqual(reached(made(EVEN), (0, 0, 0, 2)), ((0, 0, 0, 2), (0, 1, 1, 0)))

    def test_where_two_change_places(self):
        table = with_rows((0, 1, 1, 0))
        for crowd in ((1, 1, 0), (5, 3, 1), (GREAT, 1, 0)):
            self.assertEqual(reached(table, crowd), (crowd,))

    def test_where_one_state_meets_itself(self):
        table = with_rows((0, 0, 1, 2))
        self.assertEqual(reached(table, (1, 0, 0)), ((1, 0, 0),))
        self.assertEqual(reached(table, (2, 0, 0)), ((0, 1, 1), (2, 0, 0)))
        self.assertEqual(reached(table, (3, 4, 0)), ((1, 5, 1), (3, 4, 0)))

    def test_the_order_matters(self):
        one_way = with_rows((1, 0, 2, 0))
        self.assertEqual(reached(one_way, (1, 1, 0)), ((1, 0, 1), (1, 1, 0)))
        self.assertEqual(reached(one_way, (0, 1, 1)), ((0, 1, 1),))

    def test_nobody_and_somebody_alone(self):
        for table in (FALLING, ROUND, PARTING):
            self.assertEqual(reached(table, (0,) * table[1]), ((0,) * table[1],))
            self.assertEqual(reached(table, (1,) + (0,) * (table[1] - 1)), ((1,) + (0,) * (table[1] - 1),))

    def test_great_numbers(self):
        table = with_rows((1, 1, 2, 2))
        self.assertEqual(reached(table, (GREAT, 3, GREAT)), ((GREAT, 1, GREAT + 2), (GREAT, 3, GREAT)))

    def test_just_so_many(self):
        self.assertEqual(reached(FALLING, (2000, 0)), tuple((left, 2000 - left) for left in range(1, 2001)))
        self.assertEqual(len(reached(FALLING, (1999, 5))), 1999)
        for many in (2001, 2002, GREAT):
            self.assertRaises(TooMany, reached, FALLING, (many, 0))

    def test_just_so_many_in_a_wide_table(self):
        # from each crowd many others are led to at once
        table = with_rows((0, 0, 0, 1), (0, 1, 0, 2), (0, 2, 0, 0), many=3)
        self.assertEqual(len(reached(table, (62, 0, 0))), 62 * 63 // 2)
        self.assertRaises(TooMany, reached, table, (63, 0, 0))

    def test_against_all_pairs_tried(self):
        for table, crowd in drawn_cases(101, 300):
            self.assertIs(is_table(table), True)
            ahead = copy.deepcopy((table, crowd))
            told = reached(table, crowd)
            self.assertEqual(told, tuple(sorted(all_on(table, crowd))))
            self.assertIn(crowd, told)
            self.assertEqual((table, crowd), ahead)
            self.assertEqual(reached(table, crowd), told)


class EndsTest(unittest.TestCase):
    def test_where_no_row_can_be_done(self):
        for table, crowd in ((with_rows(), (3, 1, 0)), (FALLING, (1, 9)), (FALLING, (0, 9)), (PARTING, (5, 0, 1, 1)),
                             (with_rows((0, 0, 1, 2)), (1, 3, 3)), (with_rows((0, 1, 2, 2)), (0, 5, 0))):
            self.assertEqual(table_stirs(table, crowd), ())
            self.assertEqual(ends(table, crowd), ((crowd,),))

    def test_one_room_of_one(self):
        self.assertEqual(ends(FALLING, (7, 0)), (((1, 6),),))
        self.assertEqual(ends(made(EVEN), (0, 0, 0, 2)), (((0, 1, 1, 0),),))

    def test_one_room_of_several(self):
        self.assertEqual(ends(ROUND, (2, 0, 0)), (((0, 0, 2), (0, 2, 0), (2, 0, 0)),))
        self.assertEqual(ends(ROUND, (3, 0, 0)), (((1, 0, 2), (1, 2, 0), (3, 0, 0)),))

    def test_where_two_change_places(self):
        self.assertEqual(ends(with_rows((0, 1, 1, 0)), (3, 4, 0)), (((3, 4, 0),),))

    def test_several_rooms(self):
        self.assertEqual(ends(PARTING, (1, 1, 0, 0)), (((0, 0, 0, 2),), ((0, 0, 2, 0),)))
        self.assertEqual(ends(PARTING, (2, 2, 0, 0)), (((0, 0, 0, 4),), ((0, 0, 2, 2),), ((0, 0, 4, 0),)))

    def test_several_rooms_of_several(self):
        # those in 2 go to and fro with 3, and those in 4 with 5, once they came there
        table = with_rows((0, 1, 2, 2), (1, 0, 4, 4), (2, 2, 3, 3), (3, 3, 2, 2), (4, 4, 5, 5), (5, 5, 4, 4), many=6)
        self.assertEqual(ends(table, (1, 1, 0, 0, 0, 0)), (
            ((0, 0, 0, 0, 0, 2), (0, 0, 0, 0, 2, 0)), ((0, 0, 0, 2, 0, 0), (0, 0, 2, 0, 0, 0))))

    def test_a_room_that_can_be_left(self):
        # 0 and 1 go to and fro, but both at 2 stay there
        table = with_rows((0, 0, 1, 1), (1, 1, 0, 0), (1, 2, 2, 2), (2, 1, 2, 2))
        self.assertEqual(ends(table, (2, 0, 0)), (((0, 2, 0), (2, 0, 0)),))
        self.assertEqual(ends(table, (2, 0, 1)), (((0, 0, 3),),))

    def test_nobody(self):
        for table in (FALLING, ROUND, PARTING, with_rows()):
            self.assertEqual(ends(table, (0,) * table[1]), (((0,) * table[1],),))

    def test_just_so_many(self):
        self.assertEqual(ends(FALLING, (2000, 0)), (((1, 1999),),))
        for many in (2001, GREAT):
            self.assertRaises(TooMany, ends, FALLING, (many, 0))

    def test_a_great_room_and_many_rooms(self):
        to_and_fro = with_rows((0, 0, 0, 1), (0, 1, 0, 0), many=2)
        self.assertEqual(ends(to_and_fro, (2000, 0)), (tuple((left, 2000 - left) for left in range(1, 2001)),))
        self.assertRaises(TooMany, ends, to_and_fro, (2001, 0))
        told = ends(PARTING, (61, 61, 0, 0))
        self.assertEqual(told, tuple(((0, 0, 2 * left, 122 - 2 * left),) for left in range(62)))
        self.assertRaises(TooMany, ends, PARTING, (62, 62, 0, 0))

    def test_against_all_pairs_tried(self):
        great = several = 0
        for table, crowd in drawn_cases(102, 400):
            ahead = copy.deepcopy((table, crowd))
            told = ends(table, crowd)
            self.assertEqual(told, all_rooms(table, crowd))
            great += any(len(room) > 1 for room in told)
            several += len(told) > 1
            self.assertEqual((table, crowd), ahead)
            self.assertEqual(ends(table, crowd), told)
        self.assertGreater(great, 20)
        self.assertGreater(several, 10)

    def test_each_leads_to_all_of_its_room_and_to_no_other_one(self):
        for table, crowd in drawn_cases(103, 150):
            everywhere = reached(table, crowd)
            for room in ends(table, crowd):
                self.assertEqual(room, tuple(sorted(set(room))))
                for there in room:
                    self.assertIn(there, everywhere)
                    self.assertEqual(reached(table, there), room)

    def test_each_end_of_a_made_table_is_calm_and_says_the_truth(self):
        chance = random.Random(104)
        for saying in small_sayings():
            table = made(saying)
            for many in (1, 2, 3, 4):
                counts = [0] * sorts_of(saying)
                for _ in range(many):
                    counts[chance.randrange(len(counts))] += 1
                for room in ends(table, first_crowd(table, tuple(counts))):
                    self.assertEqual(len(room), 1)
                    self.assertEqual(table_stirs(table, room[0]), ())
                    said = {word for word, there in zip(table[3], room[0]) if there}
                    self.assertEqual(said, {is_true(saying, tuple(counts))})


if __name__ == "__main__":
    unittest.main()
