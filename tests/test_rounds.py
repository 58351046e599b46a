import copy
import random
import unittest

from strangersay.crowds import counts_of, crowd_of, is_crowd
from strangersay.errors import NoMeeting
from strangersay.meetings import is_shift, meet
from strangersay.rounds import done, shifts

SUM = ("sum", (1, -1), 1)       # of size 2
REST = ("rest", (1, 2), 1, 3)
BOTH = ("or", SUM, ("not", REST))
GREAT = 10 ** 30 - 1
UP = ("member", 0, ((True, 1, True),))          # a fresh one of sort 0
DOWN = ("member", 1, ((True, -1, False),))      # a fresh one of sort 1
TWO = ("member", 0, ((True, 2, True),))
IDLE = ("member", 0, ((False, 0, True),))
FULL = ("member", 0, ((False, 2, True),))


def one_by_one(saying, crowd, row):
    """What done tells, or the number of the part that can't be done, by single meetings in a plain list."""
    there = [state for state, many in crowd for _ in range(many)]
    for at, (times, meetings) in enumerate(row):
        for one, other in list(meetings) * times:
            for state in (one, other):
                if state not in there:
                    return at
                there.remove(state)
            there.extend(state for state in meet(saying, one, other) if state is not None)
    return tuple((state, there.count(state)) for state in sorted(set(there)))


def told(saying, crowd, row):
    try:
        return done(saying, crowd, row)
    except NoMeeting as refusal:
        return refusal.at


class DoneTest(unittest.TestCase):
    def refused(self, at, saying, crowd, row):
        with self.assertRaises(NoMeeting) as caught:
            done(saying, crowd, row)
        self.assertEqual(caught.exception.at, at)

    def test_nothing_to_do(self):
        for crowd in ((), crowd_of(SUM, (3, 4)), crowd_of(SUM, (GREAT, GREAT))):
            self.assertEqual(done(SUM, crowd, ()), crowd)

    def test_one_meeting(self):
        self.assertEqual(done(SUM, ((UP, 1), (DOWN, 1)), ((1, ((UP, DOWN),)),)),
                         ((("member", 0, ((True, 0, False),)), 1), (("member", 1, ((False, 0, False),)), 1)))
        self.assertEqual(done(SUM, ((UP, 1), (DOWN, 1)), ((1, ((DOWN, UP),)),)),
                         ((("member", 0, ((False, 0, False),)), 1), (("member", 1, ((True, 0, False),)), 1)))

    def test_one_state_with_itself_wants_two(self):
        row = ((1, ((UP, UP),)),)
        self.refused(0, SUM, (), row)
        self.refused(0, SUM, ((UP, 1),), row)
        self.assertEqual(done(SUM, ((UP, 2),), row), ((IDLE, 1), (TWO, 1)))
        self.assertEqual(done(SUM, ((UP, 3),), row), ((IDLE, 1), (UP, 1), (TWO, 1)))
        self.refused(0, SUM, ((UP, 3),), ((2, ((UP, UP),)),))
        self.assertEqual(done(SUM, ((UP, 4),), ((2, ((UP, UP),)),)), ((IDLE, 2), (TWO, 2)))

    def test_one_state_with_itself_that_isnt_changed_wants_two_too(self):
        for times in (1, 2, GREAT):
            self.refused(0, SUM, ((IDLE, 1),), ((times, ((IDLE, IDLE),)),))
            self.assertEqual(done(SUM, ((IDLE, 2),), ((times, ((IDLE, IDLE),)),)), ((IDLE, 2),))

    def test_who_isnt_there(self):
        self.refused(0, SUM, ((UP, 5),), ((1, ((UP, DOWN),)),))
        self.refused(0, SUM, ((UP, 5),), ((1, ((DOWN, UP),)),))
        self.refused(0, SUM, (), ((1, ((DOWN, UP),)),))

    def test_two_notes(self):
        one, other = ("note", ((False, 1),)), ("note", ((True, -4),))
        crowd = ((UP, 1), (one, 1), (other, 1))
        for times in (1, 2, GREAT):
            self.assertEqual(done(SUM, crowd, ((times, ((one, other), (other, one))),)), crowd)
            self.refused(0, SUM, crowd, ((times, ((one, one),)),))
            self.assertEqual(done(SUM, ((one, 2),), ((times, ((one, one),)),)), ((one, 2),))
        self.refused(0, SUM, ((one, 1),), ((1, ((one, other),)),))

    def test_a_note_thrown_away(self):
        one = ("note", ((False, 1),))
        self.assertEqual(done(SUM, ((UP, 3), (one, 3)), ((2, ((UP, one),)),)), ((UP, 1), (TWO, 2), (one, 1)))
        self.refused(0, SUM, ((UP, 3), (one, 3)), ((4, ((UP, one),)),))
        self.assertEqual(done(SUM, ((UP, 3), (one, 3)), ((3, ((one, UP),)),)), ((TWO, 3),))

    def test_a_state_that_arises_amid_a_round(self):
        round_of = ((UP, UP), (TWO, UP))
        behind = ("member", 0, ((False, 1, True),))
        self.assertEqual(done(SUM, ((UP, 3),), ((1, round_of),)), ((IDLE, 1), (behind, 1), (TWO, 1)))
        self.refused(0, SUM, ((UP, 2),), ((1, round_of),))
        self.refused(0, SUM, ((UP, 3),), ((1, round_of[::-1]),))
        self.assertEqual(done(SUM, ((UP, 3), (TWO, 1)), ((1, round_of[::-1]),)),
                         ((IDLE, 1), (behind, 1), (TWO, 2)))

    def test_what_arises_and_is_used_up_in_the_round(self):
        nothing = ("member", 0, ((True, 0, False),))
        low = ("member", 1, ((True, -2, False),))
        round_of = ((UP, UP), (TWO, low))
        self.assertEqual(done(SUM, ((UP, 2 * GREAT), (low, GREAT)), ((GREAT, round_of),)),
                         ((IDLE, GREAT), (nothing, GREAT), (("member", 1, ((False, 0, False),)), GREAT)))
        self.refused(0, SUM, ((UP, 2 * GREAT), (low, GREAT)), ((GREAT + 1, round_of),))

    def test_the_number_of_the_first_part_that_cant_be_done(self):
        good, bad = (1, ((UP, UP),)), (1, ((DOWN, DOWN),))
        self.refused(0, SUM, ((UP, 9),), (bad, good))
        self.refused(1, SUM, ((UP, 9),), (good, bad))
        self.refused(2, SUM, ((UP, 9),), (good, good, bad, good, bad))
        self.refused(4, SUM, ((UP, 9),), (good,) * 7)
        self.refused(1, SUM, ((UP, 9),), (good, (4, ((UP, UP),)), good))

    def test_thirty_figures_at_once(self):
        row = ((GREAT, ((UP, DOWN),)),)
        behind = ((("member", 0, ((True, 0, False),)), GREAT), (("member", 1, ((False, 0, False),)), GREAT))
        self.assertEqual(done(SUM, crowd_of(SUM, (GREAT, GREAT)), row), behind)
        self.refused(0, SUM, crowd_of(SUM, (GREAT, GREAT - 1)), row)
        self.refused(0, SUM, crowd_of(SUM, (GREAT - 1, GREAT)), row)
        parts = ((GREAT // 2, ((UP, DOWN),)), (GREAT - GREAT // 2, ((UP, DOWN),)))
        self.assertEqual(done(SUM, crowd_of(SUM, (GREAT, GREAT)), parts), behind)
        self.refused(1, SUM, crowd_of(SUM, (GREAT, GREAT - 1)), parts)
        self.refused(2, SUM, crowd_of(SUM, (GREAT, GREAT)), (*parts, (1, ((UP, DOWN),))))

    def test_thirty_figures_of_one_state(self):
        half = GREAT // 2
        self.assertEqual(done(SUM, ((UP, GREAT),), ((half, ((UP, UP),)),)), ((IDLE, half), (UP, 1), (TWO, half)))
        self.refused(0, SUM, ((UP, GREAT),), ((half + 1, ((UP, UP),)),))
        self.refused(1, SUM, ((UP, GREAT),), ((half, ((UP, UP),)), (1, ((UP, UP),))))

    def test_a_round_that_wants_more_there_than_it_uses_up(self):
        # each time one UP is used up, but two have to be there at the end of it
        round_of = ((UP, FULL), (UP, UP), (TWO, ("member", 0, ((False, 1, True),))))
        crowd = ((UP, 1000), (FULL, 1000))
        for times in (1, 2, 332, 333, 334, 335, 499, 500):
            row = ((times, round_of),)
            self.assertEqual(told(SUM, crowd, row), one_by_one(SUM, crowd, row))
        needs_two = ((IDLE, IDLE), (UP, IDLE), (UP, IDLE), (UP, UP))
        for idle in range(4):
            for up in range(8):
                crowd = tuple((state, many) for state, many in ((IDLE, idle), (UP, up)) if many)
                for times in range(1, 5):
                    row = ((times, needs_two),)
                    self.assertEqual(told(SUM, crowd, row), one_by_one(SUM, crowd, row))

    def test_a_round_that_uses_nothing_up(self):
        crowd = ((IDLE, 1), (TWO, 1))
        for times in (1, 2, GREAT):
            self.assertEqual(done(SUM, crowd, ((times, ((TWO, IDLE), (IDLE, TWO))),)), crowd)
            self.assertEqual(done(SUM, crowd, ((times, ((TWO, IDLE),)), (times, ((IDLE, TWO),)))), crowd)
            self.refused(0, SUM, ((IDLE, 1),), ((times, ((TWO, IDLE),)),))

    def test_a_round_that_goes_around(self):
        # a leader goes up by one and down by one, and those who pay for it go on being used up
        down_one, up_one = ("member", 1, ((False, -1, True),)), ("member", 0, ((False, 1, True),))
        round_of = ((TWO, down_one), (UP, up_one))
        crowd = ((up_one, GREAT), (TWO, 1), (down_one, GREAT))
        self.assertEqual(done(SUM, crowd, ((GREAT, round_of),)),
                         ((IDLE, GREAT), (TWO, 1), (("member", 1, ((False, 0, True),)), GREAT)))
        self.refused(0, SUM, crowd, ((GREAT + 1, round_of),))
        self.refused(0, SUM, crowd, ((GREAT, round_of[::-1]),))

    def test_rows_are_what_they_are_one_by_one(self):
        chance = random.Random(7)
        for saying in (SUM, REST, BOTH, ("and", REST, ("sum", (2, -1), 0))):
            for _ in range(150):
                crowd = some_crowd(saying, chance)
                row = some_row(saying, crowd, chance)
                behind = told(saying, crowd, row)
                self.assertEqual(behind, one_by_one(saying, crowd, row))
                if not isinstance(behind, int):
                    self.assertIs(is_crowd(saying, behind), True)
                    self.assertEqual(counts_of(saying, behind), counts_of(saying, crowd))

    def test_a_part_is_what_it_is_in_two_parts(self):
        chance = random.Random(8)
        for _ in range(200):
            crowd = some_crowd(BOTH, chance)
            _, round_of = some_row(BOTH, crowd, chance)[0]
            first, second = chance.randint(1, 4), chance.randint(1, 4)
            whole = told(BOTH, crowd, ((first + second, round_of),))
            halves = told(BOTH, crowd, ((first, round_of), (second, round_of)))
            self.assertEqual(isinstance(whole, int), isinstance(halves, int))
            if not isinstance(whole, int):
                self.assertEqual(whole, halves)

    def test_nothing_is_changed_also_where_it_is_refused(self):
        for row in (((1, ((UP, DOWN),)),), ((1, ((UP, DOWN),)), (9, ((UP, DOWN),)))):
            crowd = crowd_of(SUM, (3, 3))
            ahead = copy.deepcopy((crowd, row))
            self.assertEqual(told(SUM, crowd, row), told(SUM, crowd, row))
            self.assertEqual((crowd, row), ahead)


def some_crowd(saying, chance):
    """A small crowd, mixed by some meetings, with a few notes among it."""
    there = [state for state, many in crowd_of(saying, (chance.randint(1, 4), chance.randint(0, 4)))
             for _ in range(many)]
    simple_ones = len(there[0][2])
    there += [("note", tuple((chance.random() < 0.5, 1) for _ in range(simple_ones)))
              for _ in range(chance.randint(0, 2))]
    for _ in range(chance.randint(0, 6)):
        if len(there) > 1:
            chance.shuffle(there)
            one, other = there.pop(), there.pop()
            there += [state for state in meet(saying, one, other) if state is not None]
    return tuple((state, there.count(state)) for state in sorted(set(there)))


def some_row(saying, crowd, chance):
    """A row of meetings, most of which can be done."""
    there = [state for state, many in crowd for _ in range(many)]
    row = []
    for _ in range(chance.randint(1, 3)):
        meetings = []
        for _ in range(chance.randint(1, 4)):
            if len(there) > 1 and chance.random() < 0.95:
                chance.shuffle(there)
                one, other = there.pop(), there.pop()
                there += [state for state in meet(saying, one, other) if state is not None]
            else:
                one, other = chance.choice(crowd)[0], chance.choice(crowd)[0]
            meetings.append((one, other))
        row.append((chance.choice((1, 1, 2, 3)), tuple(meetings)))
    return tuple(row)


class ShiftsTest(unittest.TestCase):
    def test_of_nothing(self):
        self.assertEqual(shifts(SUM, ()), 0)

    def test_ordinary(self):
        self.assertEqual(shifts(SUM, ((1, ((UP, DOWN),)),)), 1)
        self.assertEqual(shifts(SUM, ((5, ((UP, DOWN), (TWO, IDLE), (UP, UP))),)), 10)
        self.assertEqual(shifts(SUM, ((5, ((TWO, IDLE), (IDLE, IDLE))),)), 0)
        self.assertEqual(shifts(SUM, ((2, ((UP, DOWN),)), (3, ((TWO, FULL),)), (4, ((UP, UP), (UP, UP))))), 10)

    def test_words_and_notes(self):
        other = ("member", 1, ((False, 0, False),))
        one = ("note", ((False, 1),))
        self.assertEqual(shifts(SUM, ((7, ((TWO, other),)),)), 0)
        self.assertEqual(shifts(SUM, ((7, ((one, one), (UP, one))),)), 7)

    def test_of_thirty_figures(self):
        self.assertEqual(shifts(SUM, ((GREAT, ((UP, DOWN), (UP, UP), (TWO, IDLE))), (GREAT, ((UP, UP),)))), 3 * GREAT)

    def test_as_told_of_each_meeting(self):
        chance = random.Random(9)
        for _ in range(100):
            row = some_row(BOTH, some_crowd(BOTH, chance), chance)
            self.assertEqual(shifts(BOTH, row), sum(is_shift(BOTH, one, other) for times, meetings in row
                                                    for one, other in list(meetings) * times))


if __name__ == "__main__":
    unittest.main()
