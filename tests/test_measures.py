import itertools
import random
import unittest

from strangersay.crowds import crowd_of, gathered
from strangersay.measures import measure, measures
from strangersay.meetings import is_shift, meet
from strangersay.rounds import done, shifts
from strangersay.sayings import simples
from tests.draws import some_history, some_meeting, some_saying, stepped
from tests.samples import BOTH, REST, SUM, all_states, member, note

GREAT = 10 ** 30 - 1


class SumTest(unittest.TestCase):
    """SUM is of size 3: each more who leads is 4."""

    def check(self, wanted, *groups):
        there = tuple(sorted(groups))
        self.assertEqual(measures(SUM, there), (wanted,))
        self.assertEqual(measure(SUM, there), wanted)

    def test_nobody(self):
        self.check(0)

    def test_who_leads_among_members(self):
        for many in range(1, 6):
            self.check(4 * (many - 1), (member((True, 2, True)), many))
        self.check(4 * 4, (member((True, 2, True)), 2), (member((True, -3, False), sort=1), 3))

    def test_the_numbers_of_members_who_lead_dont_count(self):
        for number in range(-3, 4):
            self.check(0, (member((True, number, number >= 1)), 1))

    def test_the_numbers_of_members_who_dont_lead(self):
        for number in range(-3, 4):
            for word in (False, True):
                self.check(abs(number), (member((True, 1, True)), 1), (member((False, number, word)), 1))
        self.check(2 * 3 + 3 * 2, (member((True, 1, True)), 1), (member((False, -3, True)), 2),
                   (member((False, 2, True), sort=1), 3))

    def test_who_leads_among_notes(self):
        self.check(1, (note((True, 0)), 1), (member((False, 0, True)), 1))
        self.check(4 + 1, (note((True, 0)), 1), (member((True, 2, True)), 1))
        self.check(4 * 3 + 3, (note((True, 0)), 3), (member((True, 2, True)), 1))

    def test_the_numbers_of_notes_twice(self):
        for number in range(-6, 7):
            self.check(4 + 1 + 2 * abs(number), (note((True, number)), 1), (member((True, 2, True)), 1))
            if number:
                self.check(2 * abs(number), (note((False, number)), 1), (member((True, 2, True)), 1))
        self.check(2 * (5 * 4 + 2 * 6), (note((False, -5)), 4), (note((False, 6)), 2), (member((True, 2, True)), 1))

    def test_none_leading(self):
        self.check(0, (member((False, 0, True)), 5))
        self.check(3 + 2, (member((False, 3, True)), 1), (member((False, -2, True)), 1))

    def test_notes_alone(self):
        self.check(2 * 4, (note((False, 4)), 1))
        self.check(1, (note((True, 0)), 1))
        self.check(4 + 2 + 2 * (3 + 3), (note((True, 3)), 1), (note((True, -3)), 1))

    def test_all_together(self):
        self.check(4 * (2 + 3 - 1) + 3 + (5 * 1 + 1 * 2) + 2 * (3 * 6 + 4 * 1),
                   (member((True, 3, True)), 2), (member((False, -1, True)), 5), (member((False, 2, False), sort=1), 1),
                   (note((True, -6)), 3), (note((False, 1)), 4))

    def test_of_thirty_figures(self):
        self.check(4 * (2 * GREAT - 1), *crowd_of(SUM, (GREAT, GREAT)))
        self.check(4 * (GREAT - 1) + 13 * GREAT, (note((True, -6)), GREAT))

    def test_by_other_sizes(self):
        for simple, size in ((("sum", (0,), 0), 1), (("sum", (1,), 20), 21), (("sum", (1,), -20), 21),
                             (("sum", (-9,), 3), 9), (("sum", (9,), -8), 9), (("sum", (-9,), 9), 10)):
            self.assertEqual(measures(simple, crowd_of(simple, (4,))), (3 * (1 + size),))


class RestTest(unittest.TestCase):
    def check(self, wanted, *groups):
        there = tuple(sorted(groups))
        self.assertEqual(measures(REST, there), (wanted,))
        self.assertEqual(measure(REST, there), wanted)

    def test_nobody(self):
        self.check(0)

    def test_who_leads_among_members(self):
        for many in range(1, 6):
            for number in range(3):
                self.check(many - 1, (member((True, number, number == 1)), many))

    def test_members_who_dont_lead_with_another_number_than_0(self):
        for number in range(3):
            for word in (False, True):
                self.check(7 * (number != 0), (member((True, 1, True)), 1), (member((False, number, word)), 7))

    def test_notes(self):
        for number in range(3):
            self.check(5 + 5 + 2 * 5 * (number != 0), (member((True, 1, True)), 1), (note((True, number)), 5))
        for number in (1, 2):
            self.check(2 * 5, (member((True, 1, True)), 1), (note((False, number)), 5))

    def test_none_leading_and_notes_alone(self):
        self.check(0, (member((False, 0, True)), 5))
        self.check(2, (member((False, 2, True)), 2), (member((False, 0, True)), 5))
        self.check(2 * 3, (note((False, 2)), 3))
        self.check(1, (note((True, 0)), 1))
        self.check(1 + 2 + 2, (note((True, 0)), 1), (note((True, 1)), 1))

    def test_all_together(self):
        self.check((2 + 3 - 1) + 3 + 5 + 2 * (3 + 4),
                   (member((True, 0, False)), 2), (member((False, 2, True)), 5), (member((False, 0, False), sort=1), 9),
                   (note((True, 2)), 3), (note((False, 1)), 4))

    def test_of_thirty_figures(self):
        self.check(2 * GREAT - 1, *crowd_of(REST, (GREAT, GREAT)))


class SeveralTest(unittest.TestCase):
    def test_each_in_its_order_and_together(self):
        self.assertEqual(measures(BOTH, ()), (0, 0))
        self.assertEqual(measure(BOTH, ()), 0)
        self.assertEqual(measures(BOTH, crowd_of(BOTH, (2, 1))), (2, 8))
        self.assertEqual(measure(BOTH, crowd_of(BOTH, (2, 1))), 10)
        there = ((member((False, 2, True), (True, 2, True)), 3), (member((True, 1, True), (False, -3, True)), 1),
                 (note((False, 0), (True, -4)), 2), (note((False, 1), (False, 0)), 1))
        self.assertEqual(measures(BOTH, there), (3 + 2, 4 * 4 + 2 + 3 + 2 * 8))
        self.assertEqual(measure(BOTH, there), 5 + 37)


class FallingTest(unittest.TestCase):
    def test_each_pair_of_states(self):
        for simple in (("sum", (1, -2), 1), ("sum", (0,), -1), ("rest", (1, -1), 1, 2), ("rest", (2,), 2, 3)):
            # with another one who leads there, so that one less than how many lead falls by each lead that is lost
            other_lead = next(state for state in all_states(simple) if state[-1][0][0])
            for one, other in itertools.product(all_states(simple), repeat=2):
                behind = [state for state in meet(simple, one, other) if state is not None]
                for more in ((), (other_lead,)):
                    self.falls(simple, self.of((one, other, *more)), self.of((*behind, *more)),
                               is_shift(simple, one, other))

    def of(self, states):
        manys = {}
        for state in states:
            manys[state] = manys.get(state, 0) + 1
        return gathered(manys)

    def falls(self, saying, ahead, behind, shifted):
        for less, more in zip(measures(saying, behind), measures(saying, ahead)):
            self.assertLessEqual(less, more)
            self.assertGreaterEqual(less, 0)
        if shifted:
            self.assertLess(measure(saying, behind), measure(saying, ahead))
        else:
            self.assertEqual(measure(saying, behind), measure(saying, ahead))

    def test_drawn_meetings(self):
        chance = random.Random(31)
        seen = {True: 0, False: 0}
        for _ in range(60):
            saying = some_saying(chance)
            for there in some_history(saying, chance, 40)[::3]:
                if sum(many for _, many in there) > 1:
                    pair = some_meeting(there, chance)
                    shifted = is_shift(saying, *pair)
                    seen[shifted] += 1
                    self.falls(saying, there, done(saying, there, ((1, (pair,)),)), shifted)
        self.assertGreater(min(seen.values()), 100)

    def test_only_what_a_meeting_changes_falls(self):
        chance = random.Random(32)
        for _ in range(40):
            saying = some_saying(chance, simple_ones=3)
            there = some_history(saying, chance, 30)[-1]
            if sum(many for _, many in there) > 1:
                pair = some_meeting(there, chance)
                behind = measures(saying, done(saying, there, ((1, (pair,)),)))
                then = [state or ("note", ((False, 0),) * 3) for state in meet(saying, *pair)]
                for at in range(3):
                    changed = any(old[-1][at][:2] != new[-1][at][:2] for old, new in zip(pair, then))
                    self.assertEqual(behind[at] < measures(saying, there)[at], changed)

    def test_at_most_so_many_shifts_are_to_come(self):
        chance = random.Random(33)
        for _ in range(30):
            saying = some_saying(chance)
            there = some_history(saying, chance, 30)[-1]
            most, spent = measure(saying, there), 0
            for _ in range(100):
                if sum(many for _, many in there) > 1:
                    row = ((1, (some_meeting(there, chance),)),)
                    spent += shifts(saying, row)
                    there = done(saying, there, row)
            self.assertLessEqual(spent + measure(saying, there), most)

    def test_told_again_the_same_and_nothing_changed(self):
        chance = random.Random(34)
        saying = some_saying(chance)
        there = stepped(saying, crowd_of(saying, (2,) * len(simples(saying)[0][1])), chance, 20)
        ahead = tuple(there)
        self.assertEqual(measures(saying, there), measures(saying, there))
        self.assertEqual(there, ahead)


if __name__ == "__main__":
    unittest.main()
