import copy
import random
import unittest

from strangersay.calm import is_calm, stirs
from strangersay.crowds import counts_of, crowd_of, notes_in, words_in
from strangersay.meetings import meet
from strangersay.sayings import simples
from strangersay.states import fresh
from strangersay.truths import is_true
from tests.draws import calmed, has_members, individuals, some_history, some_saying
from tests.samples import BOTH, REST, SUM, member, note

GREAT = 10 ** 30 - 1
LEAD = member((True, 3, True))
IDLE = member((False, 0, True))
WRONG = member((False, 0, False))


class StirsTest(unittest.TestCase):
    def check(self, saying, there, *pairs):
        self.assertEqual(stirs(saying, there), pairs)
        self.assertIs(is_calm(saying, there), pairs == ())

    def test_nobody_notes_alone_and_one_member(self):
        for saying in (SUM, REST, BOTH):
            self.check(saying, ())
            for sort in (0, 1):
                self.check(saying, ((fresh(saying, sort), 1),))
        self.check(SUM, ((note((False, 4)), 3), (note((True, -6)), 2)))
        self.check(REST, ((note((False, 1)), GREAT), (note((True, 1)), GREAT)))
        self.check(BOTH, ((note((False, 1), (True, 2)), 2),))

    def test_two_of_one_state(self):
        one = fresh(SUM, 0)
        self.check(SUM, ((one, 2),), (one, one))
        self.check(SUM, ((one, GREAT),), (one, one))
        self.check(SUM, ((IDLE, 2),))
        self.check(SUM, ((IDLE, 2), (LEAD, 2)), (LEAD, LEAD))
        self.check(SUM, ((IDLE, 2), (LEAD, 1)))

    def test_both_orders_of_a_pair_rising(self):
        one, other = fresh(SUM, 0), fresh(SUM, 1)
        self.check(SUM, ((one, 1), (other, 1)), (one, other), (other, one))
        self.check(SUM, ((one, 2), (other, 1)), (one, one), (one, other), (other, one))
        self.check(SUM, ((one, 1), (other, 2)), (one, other), (other, one), (other, other))
        self.check(SUM, ((one, 2), (other, 2)), (one, one), (one, other), (other, one), (other, other))

    def test_pairs_that_change_words_alone(self):
        self.check(SUM, ((WRONG, 1), (LEAD, 1)), (WRONG, LEAD), (LEAD, WRONG))
        self.check(SUM, ((WRONG, 5), (IDLE, 5), (LEAD, 1)), (WRONG, LEAD), (LEAD, WRONG))
        self.check(SUM, ((WRONG, 5), (IDLE, 5)))

    def test_who_is_full_and_who_has_more_of_it(self):
        more = member((False, 2, True))
        less = member((False, -1, True))
        self.check(SUM, ((more, 3), (LEAD, 1)))
        self.check(SUM, ((less, 1), (more, 3), (LEAD, 1)), (less, LEAD), (LEAD, less))

    def test_notes(self):
        one, other = note((False, 1)), note((True, -1))
        self.check(SUM, ((LEAD, 1), (one, 2)))
        self.check(SUM, ((LEAD, 1), (one, 2), (other, 2)), (LEAD, other), (other, LEAD))
        self.check(SUM, ((IDLE, 1), (one, 2), (other, 1)), (IDLE, one), (IDLE, other), (one, IDLE), (other, IDLE))

    def test_a_note_that_changes_only_by_going(self):
        lead, noted = member((True, 2, True)), note((True, 0))
        self.check(SUM, ((lead, 1), (noted, 1)), (lead, noted), (noted, lead))

    def test_of_several_one_is_enough(self):
        still = member((False, 0, True), (False, 0, True))
        lead = member((True, 1, True), (True, 3, True))
        wrong = member((False, 0, False), (False, 0, True))
        self.check(BOTH, ((still, 9), (lead, 1)))
        self.check(BOTH, ((wrong, 1), (still, 9), (lead, 1)), (wrong, lead), (lead, wrong))

    def test_as_meet_tells_of_any_two(self):
        chance = random.Random(41)
        for _ in range(60):
            saying = some_saying(chance)
            there = some_history(saying, chance, 30)[-1]
            states = individuals(there)
            pairs = {(one, other) for at, one in enumerate(states) for k, other in enumerate(states)
                     if at != k and meet(saying, one, other) != (one, other)}
            self.check(saying, there, *sorted(pairs))

    def test_what_is_handed_in_stays(self):
        there = crowd_of(BOTH, (2, 3))
        ahead = copy.deepcopy(there)
        self.assertEqual(stirs(BOTH, there), stirs(BOTH, there))
        self.assertEqual(there, ahead)


class RightTest(unittest.TestCase):
    def right(self, saying, there):
        """All that is promised of a calm crowd with a member."""
        counts = counts_of(saying, there)
        self.assertEqual(notes_in(there), 0)
        for at, simple in enumerate(simples(saying)):
            self.assertEqual(sum(many for state, many in there if state[2][at][0]), 1)
            self.assertEqual({state[2][at][2] for state, _ in there}, {is_true(simple, counts)})
        everybody = sum(counts)
        self.assertEqual(words_in(saying, there), (everybody, 0) if is_true(saying, counts) else (0, everybody))

    def test_wherever_a_drawn_history_is_calm(self):
        chance = random.Random(42)
        seen = 0
        for _ in range(150):
            saying = some_saying(chance, sorts=2)
            for there in some_history(saying, chance, 60, most=4):
                if has_members(saying, there) and is_calm(saying, there):
                    seen += sum(counts_of(saying, there)) > 1
                    self.right(saying, there)
        self.assertGreater(seen, 50)

    def test_wherever_drawn_meetings_end(self):
        chance = random.Random(43)
        seen = 0
        for _ in range(150):
            saying = some_saying(chance)
            there = calmed(saying, some_history(saying, chance, 50, most=12)[-1], chance)
            self.assertIs(is_calm(saying, there), True)
            if has_members(saying, there):
                seen += 1
                self.right(saying, there)
        self.assertGreater(seen, 100)

    def test_of_six_simple_ones(self):
        chance = random.Random(44)
        for _ in range(15):
            saying = some_saying(chance, simple_ones=6)
            there = calmed(saying, some_history(saying, chance, 30, most=10)[-1], chance)
            if has_members(saying, there):
                self.right(saying, there)


if __name__ == "__main__":
    unittest.main()
