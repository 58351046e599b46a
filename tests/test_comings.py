import copy
import inspect
import random
import unittest

from strangersay.comings import joined, left, turned
from strangersay.crowds import counts_of, crowd_of, is_crowd, notes_in
from strangersay.errors import NoOne
from strangersay.sayings import simples, sorts_of
from strangersay.states import fresh, is_state
from tests.draws import members_in, some_history, some_saying
from tests.samples import BOTH, REST, SUM, member, note

GREAT = 10 ** 30 - 1


def crowd(*groups):
    return tuple(sorted(groups))


class RefusingTest(unittest.TestCase):
    def refused(self, state, asked, *told, **named):
        """It is refused with the member, and what was handed in stays as it was."""
        ahead = copy.deepcopy(told)
        with self.assertRaises(NoOne) as caught:
            asked(*told, **named)
        self.assertEqual(caught.exception.member, state)
        self.assertEqual(told, ahead)


class InterfaceTest(unittest.TestCase):
    def test_many_stands_behind_the_star_and_is_one_where_it_is_not_told(self):
        for asked, names in ((joined, ["saying", "crowd", "sort"]), (left, ["saying", "crowd", "member"]),
                             (turned, ["saying", "crowd", "member", "sort"])):
            told = inspect.signature(asked).parameters
            self.assertEqual(list(told), [*names, "many"])
            self.assertEqual(told["many"].kind, inspect.Parameter.KEYWORD_ONLY)
            self.assertEqual(told["many"].default, 1)
            for name in names:
                self.assertEqual(told[name].kind, inspect.Parameter.POSITIONAL_OR_KEYWORD)
                self.assertIs(told[name].default, inspect.Parameter.empty)


class JoinedTest(unittest.TestCase):
    def test_into_nobody(self):
        for saying in (SUM, REST, BOTH):
            for sort in (0, 1):
                self.assertEqual(joined(saying, (), sort), ((fresh(saying, sort), 1),))
                self.assertEqual(joined(saying, (), sort, many=7), ((fresh(saying, sort), 7),))

    def test_into_a_crowd_that_has_that_state(self):
        self.assertEqual(joined(SUM, crowd_of(SUM, (2, 3)), 0), crowd_of(SUM, (3, 3)))
        self.assertEqual(joined(SUM, crowd_of(SUM, (2, 3)), 1, many=4), crowd_of(SUM, (2, 7)))

    def test_into_a_crowd_of_others(self):
        others = ((member((False, 0, True)), 2), (member((True, 3, True)), 1), (note((False, 1)), 5))
        self.assertEqual(joined(SUM, others, 0), crowd(*others, (fresh(SUM, 0), 1)))
        self.assertEqual(joined(SUM, others, 1, many=2), crowd(*others, (fresh(SUM, 1), 2)))

    def test_so_a_crowd_is_made(self):
        for saying in (SUM, REST, BOTH):
            self.assertEqual(joined(saying, joined(saying, (), 1, many=9), 0, many=4), crowd_of(saying, (4, 9)))

    def test_of_thirty_figures(self):
        self.assertEqual(joined(SUM, (), 0, many=GREAT), crowd_of(SUM, (GREAT, 0)))
        self.assertEqual(joined(SUM, crowd_of(SUM, (GREAT, 1)), 0, many=GREAT), crowd_of(SUM, (2 * GREAT, 1)))
        self.assertEqual(joined(SUM, crowd_of(SUM, (GREAT, 1)), 1), crowd_of(SUM, (GREAT, 2)))

    def test_what_is_handed_in_stays(self):
        there = crowd_of(BOTH, (2, 3))
        ahead = copy.deepcopy(there)
        self.assertEqual(joined(BOTH, there, 0), joined(BOTH, there, 0))
        self.assertEqual(there, ahead)


class LeftTest(RefusingTest):
    def goes(self, saying, state, noted):
        """Who is alone in that state goes and leaves that note, or none."""
        self.assertIs(is_state(saying, state), True)
        behind = () if noted is None else ((noted, 1),)
        self.assertEqual(left(saying, ((state, 1),), state), behind)

    def test_who_does_not_lead_leaves_its_number_less_its_worth(self):
        for sort, worth in ((0, 2), (1, -3)):
            for number in range(-3, 4):
                for word in (False, True):
                    noted = None if number == worth else note((False, number - worth))
                    self.goes(SUM, member((False, number, word), sort=sort), noted)

    def test_who_leads_leaves_the_lead(self):
        for sort, worth in ((0, 2), (1, -3)):
            for number in range(-3, 4):
                self.goes(SUM, member((True, number, number >= 1), sort=sort), note((True, number - worth)))
        self.goes(SUM, fresh(SUM, 0), note((True, 0)))
        self.goes(SUM, fresh(SUM, 1), note((True, 0)))

    def test_of_rests_what_is_left(self):
        for sort, number, leaves in ((0, 0, 2), (0, 1, 0), (0, 2, 1), (1, 0, 2), (1, 1, 0), (1, 2, 1)):
            for word in (False, True):
                noted = None if leaves == 0 else note((False, leaves))
                self.goes(REST, member((False, number, word), sort=sort), noted)
            self.goes(REST, member((True, number, number == 1), sort=sort), note((True, leaves)))

    def test_of_rests_with_worths_below_0_and_beyond_m(self):
        for divisor in range(2, 10):
            for worth in range(-9, 10):
                simple = ("rest", (worth,), 0, divisor)
                for number in range(divisor):
                    leaves = (number - worth) % divisor
                    noted = None if leaves == 0 else note((False, leaves))
                    self.goes(simple, member((False, number, True)), noted)

    def test_of_several_each_by_itself(self):
        # the rest rises ahead of the sum
        self.goes(BOTH, member((False, 1, True), (False, 2, False)), None)
        self.goes(BOTH, member((False, 1, True), (True, 2, True)), note((False, 0), (True, 0)))
        self.goes(BOTH, member((True, 0, False), (False, 2, False)), note((True, 2), (False, 0)))
        self.goes(BOTH, member((False, 2, True), (False, 3, False), sort=1), note((False, 1), (False, 6)))

    def test_all_of_them_and_some_of_them(self):
        state, other = member((False, 0, False)), fresh(SUM, 1)
        there = crowd((state, 5), (other, 2))
        self.assertEqual(left(SUM, there, state), crowd((state, 4), (other, 2), (note((False, -2)), 1)))
        self.assertEqual(left(SUM, there, state, many=3), crowd((state, 2), (other, 2), (note((False, -2)), 3)))
        self.assertEqual(left(SUM, there, state, many=5), crowd((other, 2), (note((False, -2)), 5)))

    def test_a_note_that_is_already_there(self):
        state, noted = member((False, 0, False)), note((False, -2))
        there = crowd((state, 5), (noted, 10), (note((True, -2)), 1))
        self.assertEqual(left(SUM, there, state, many=2), crowd((state, 3), (noted, 12), (note((True, -2)), 1)))

    def test_a_note_of_nothing_is_not_left_by_many_either(self):
        state = member((False, 2, False))
        self.assertEqual(left(SUM, ((state, 9),), state, many=4), ((state, 5),))
        self.assertEqual(left(SUM, ((state, 9),), state, many=9), ())

    def test_of_thirty_figures(self):
        state = fresh(SUM, 0)
        self.assertEqual(left(SUM, ((state, GREAT),), state, many=GREAT), ((note((True, 0)), GREAT),))
        self.assertEqual(left(SUM, ((state, GREAT),), state, many=GREAT - 1),
                         ((state, 1), (note((True, 0)), GREAT - 1)))
        self.refused(state, left, SUM, ((state, GREAT - 1),), state, many=GREAT)

    def test_fewer_and_none(self):
        state, other = fresh(SUM, 0), fresh(SUM, 1)
        self.refused(state, left, SUM, (), state)
        self.refused(state, left, SUM, ((other, 5),), state)
        self.refused(state, left, SUM, crowd((state, 2), (other, 5)), state, many=3)
        self.refused(other, left, SUM, crowd((state, 9), (other, 5)), other, many=6)
        self.refused(member((True, 1, True)), left, SUM, crowd((state, 9), (other, 5)), member((True, 1, True)))
        self.refused(member((False, 2, True)), left, SUM, ((member((False, 2, False)), 1),), member((False, 2, True)))


class TurnedTest(RefusingTest):
    def test_to_another_sort_with_the_holds_as_they_were(self):
        for holds in ((True, 2, True), (True, -3, False), (False, 0, True), (False, 3, False)):
            for sort, other, noted in ((0, 1, -5), (1, 0, 5)):
                state = member(holds, sort=sort)
                self.assertEqual(turned(SUM, ((state, 1),), state, other),
                                 ((member(holds, sort=other), 1), (note((False, noted)), 1)))

    def test_to_its_own_sort(self):
        for saying in (SUM, REST, BOTH):
            for sort in (0, 1):
                state = fresh(saying, sort)
                self.assertEqual(turned(saying, ((state, 3),), state, sort), ((state, 3),))
                self.assertEqual(turned(saying, ((state, 3),), state, sort, many=3), ((state, 3),))
                self.refused(state, turned, saying, ((state, 3),), state, sort, many=4)

    def test_a_note_of_nothing_between_sorts_of_one_worth(self):
        alike = ("sum", (4, 4), 1)
        self.assertEqual(turned(alike, crowd_of(alike, (3, 1)), fresh(alike, 0), 1, many=2), crowd_of(alike, (1, 3)))
        # 1 and -2 are as much by 3
        self.assertEqual(turned(REST, crowd_of(REST, (1, 0)), fresh(REST, 0), 1), crowd_of(REST, (0, 1)))

    def test_of_rests_what_is_left(self):
        for divisor in range(2, 10):
            for old in range(-9, 10, 2):
                for new in range(-9, 10, 3):
                    simple = ("rest", (old, new), 0, divisor)
                    leaves = (new - old) % divisor
                    state = fresh(simple, 0)
                    notes = () if leaves == 0 else ((note((False, leaves)), 1),)
                    self.assertEqual(turned(simple, ((state, 1),), state, 1), ((member(*state[2], sort=1), 1), *notes))

    def test_of_several_each_by_itself(self):
        state = member((True, 2, False), (False, -1, True))
        self.assertEqual(turned(BOTH, ((state, 1),), state, 1),
                         ((member(*state[2], sort=1), 1), (note((False, 0), (False, -5)), 1)))
        three = ("and", ("sum", (1, 1, 4), 0), ("rest", (1, 2, 2), 0, 5))
        for old, new, noted in ((0, 1, ((False, 1), (False, 0))), (1, 2, ((False, 0), (False, 3))), (1, 1, None),
                                (2, 1, ((False, 0), (False, -3))), (2, 0, ((False, 4), (False, -3)))):
            state = fresh(three, old)
            notes = () if noted is None else ((("note", noted), 1),)
            self.assertEqual(turned(three, ((state, 1),), state, new), ((member(*state[2], sort=new), 1), *notes))

    def test_the_lead_is_not_noted(self):
        state = fresh(SUM, 0)
        self.assertEqual(turned(SUM, ((state, 1),), state, 1), ((member((True, 2, True), sort=1), 1),
                                                              (note((False, -5)), 1)))

    def test_all_of_them_and_some_of_them(self):
        state = member((False, 2, True))
        other, noted = member((False, 2, True), sort=1), note((False, -5))
        self.assertEqual(turned(SUM, ((state, 5),), state, 1, many=2), ((state, 3), (other, 2), (noted, 2)))
        self.assertEqual(turned(SUM, ((state, 5),), state, 1, many=5), ((other, 5), (noted, 5)))

    def test_a_state_and_a_note_that_are_already_there(self):
        state = member((False, 2, True))
        other, noted = member((False, 2, True), sort=1), note((False, -5))
        there = ((state, 5), (other, 10), (noted, 100))
        self.assertEqual(turned(SUM, there, state, 1, many=2), ((state, 3), (other, 12), (noted, 102)))
        self.assertEqual(turned(SUM, there, other, 1, many=10), there)

    def test_of_thirty_figures(self):
        state, other = fresh(SUM, 1), member((True, -3, False))
        self.assertEqual(turned(SUM, ((state, GREAT),), state, 0, many=GREAT),
                         ((other, GREAT), (note((False, 5)), GREAT)))
        self.refused(state, turned, SUM, ((state, GREAT - 1),), state, 0, many=GREAT)

    def test_fewer_and_none(self):
        state, other = fresh(SUM, 0), fresh(SUM, 1)
        self.refused(state, turned, SUM, (), state, 1)
        self.refused(state, turned, SUM, (), state, 0)
        self.refused(state, turned, SUM, ((other, 5),), state, 1)
        self.refused(state, turned, SUM, crowd((state, 2), (other, 5)), state, 1, many=3)
        self.refused(other, turned, SUM, crowd((state, 9), (other, 5)), other, 0, many=6)


class DrawnTest(unittest.TestCase):
    def test_many_at_once_is_the_same_as_one_by_one(self):
        chance = random.Random(11)
        for _ in range(120):
            saying = some_saying(chance)
            there = some_history(saying, chance, 30)[-1]
            many, sort = chance.randint(1, 6), chance.randrange(sorts_of(saying))
            self.same(joined, saying, there, (sort,), many)
            for state, so_many in there:
                if state[0] == "member":
                    self.same(left, saying, there, (state,), so_many)
                    self.same(turned, saying, there, (state, sort), so_many)

    def same(self, asked, saying, there, told, many):
        ahead = copy.deepcopy(there)
        behind = there
        for _ in range(many):
            behind = asked(saying, behind, *told, many=1)
        self.assertEqual(asked(saying, there, *told, many=many), behind)
        self.assertEqual(asked(saying, there, *told), asked(saying, there, *told, many=1))
        self.assertEqual(there, ahead)

    def test_told_is_a_crowd_with_those_who_are_there(self):
        chance = random.Random(12)
        for _ in range(150):
            saying = some_saying(chance)
            there = some_history(saying, chance, 30)[-1]
            counts, sort = list(counts_of(saying, there)), chance.randrange(sorts_of(saying))
            counts[sort] += 1
            self.is_so(saying, joined(saying, there, sort), counts)
            if members_in(there):
                state = chance.choice(members_in(there))
                counts[state[1]] -= 1
                self.is_so(saying, turned(saying, there, state, sort), counts)
                counts[sort] -= 1
                self.is_so(saying, left(saying, there, state), counts)
                self.assertLessEqual(notes_in(left(saying, there, state)), notes_in(there) + 1)

    def is_so(self, saying, behind, counts):
        self.assertIs(is_crowd(saying, behind), True)
        self.assertEqual(counts_of(saying, behind), tuple(counts))

    def test_the_greatest_notes_are_notes(self):
        for simple in (("sum", (9, -9), 0), ("sum", (9, -9), 20), ("sum", (0, 0), 0), ("rest", (9, -9), 0, 9)):
            size = simple[3] - 1 if simple[0] == "rest" else max(1 + abs(simple[2]), *simple[1])
            for sort in (0, 1):
                for number in (0 if simple[0] == "rest" else -size, size):
                    state = member((False, number, True), sort=sort)
                    self.assertIs(is_crowd(simple, left(simple, ((state, 1),), state)), True)
                    self.assertIs(is_crowd(simple, turned(simple, ((state, 1),), state, 1 - sort)), True)
        self.assertEqual(simples(BOTH), (REST, SUM))


if __name__ == "__main__":
    unittest.main()
