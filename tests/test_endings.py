import copy
import random
import unittest

from strangersay.calm import is_calm
from strangersay.comings import joined, left, turned
from strangersay.crowds import counts_of, crowd_of, is_crowd, notes_in, words_in
from strangersay.endings import ending, looks_ended
from strangersay.measures import measure
from strangersay.rounds import done, is_row, shifts
from strangersay.sayings import simples, sorts_of
from strangersay.sizes import left_by, says, size_of
from strangersay.states import fresh
from strangersay.sums import is_sound
from strangersay.truths import is_true, total
from tests.draws import has_members, individuals, members_in, some_history, some_saying
from tests.samples import BOTH, REST, SUM, Agreeing, AnswersTest, member, nested, note, odd_things

GREAT = 10 ** 30 - 1


def great_history(saying, chance, most):
    """A crowd of at most so many members and notes, most of whom have not met since they came, went or turned."""
    there = ()
    for sort in range(sorts_of(saying)):
        there = joined(saying, there, sort, many=chance.randint(1, most // sorts_of(saying)))
    for _ in range(chance.randint(0, 60)):
        pair = tuple(chance.sample(individuals(there), 2)) if len(individuals(there)) > 1 else None
        if pair and chance.random() < 0.6:
            there = done(saying, there, ((1, (pair,)),))
        elif members_in(there) and chance.random() < 0.6:
            there = left(saying, there, chance.choice(members_in(there)))
        elif members_in(there) and len(individuals(there)) < most:
            there = turned(saying, there, chance.choice(members_in(there)), chance.randrange(sorts_of(saying)))
    return there


def some_number(simple, chance, scale):
    size = size_of(simple)
    return chance.randint(0, size) if simple[0] == "rest" else chance.randint(-scale * size, scale * size)


def some_member(saying, chance):
    holds = []
    for simple in simples(saying):
        leads, number = chance.random() < 0.2, some_number(simple, chance, 1)
        holds.append((leads, number, says(simple, number) if leads else chance.random() < 0.5))
    return ("member", chance.randrange(sorts_of(saying)), tuple(holds))


def some_note(saying, chance):
    return ("note", tuple((chance.random() < 0.1, some_number(simple, chance, 2)) for simple in simples(saying)))


def some_sound_crowd(saying, chance, most):
    """A sound crowd that need not have come by any history: who leads in one may follow in another."""
    states = [some_member(saying, chance) for _ in range(chance.randint(1, most))]
    states += [some_note(saying, chance) for _ in range(chance.randint(0, 4))]
    for at, simple in enumerate(simples(saying)):
        blank = [(False, 0)] * len(simples(saying))
        if not any(state[-1][at][0] for state in states):
            blank[at] = (True, 0)
            states.append(("note", tuple(blank)))
        counts = [sum(state[1] == sort for state in states if state[0] == "member") for sort in range(sorts_of(saying))]
        missing = total(simple, counts) - sum(state[-1][at][1] for state in states)
        while left_by(simple, missing) != 0:
            step = max(-2 * size_of(simple), min(2 * size_of(simple), left_by(simple, missing)))
            blank[at] = (False, step)
            states.append(("note", tuple(blank)))
            missing -= step
    states = [state for state in states if state[0] == "member" or any(hold != (False, 0) for hold in state[1])]
    return tuple((state, states.count(state)) for state in sorted(set(states)))


class EndingTest(unittest.TestCase):
    def ends(self, saying, there):
        """The row leads to a calm crowd, where all say the truth."""
        self.assertIs(is_sound(saying, there), True)
        ahead = copy.deepcopy((saying, there))
        row = ending(saying, there)
        self.assertEqual((saying, there), ahead)
        self.assertIs(is_row(saying, row), True)
        behind = done(saying, there, row)
        self.assertIs(is_calm(saying, behind), True)
        self.assertIs(looks_ended(saying, there, row), True)
        self.assertEqual(row == (), is_calm(saying, there))
        self.assertLessEqual(shifts(saying, row), measure(saying, there))
        counts = counts_of(saying, there)
        if has_members(saying, there):
            self.assertEqual(notes_in(behind), 0)
            everybody = sum(counts)
            self.assertEqual(words_in(saying, behind), (everybody, 0) if is_true(saying, counts) else (0, everybody))
        self.assertEqual(ending(saying, there), row)

    def test_of_nobody_and_notes_alone(self):
        for saying in (SUM, REST, BOTH):
            self.assertEqual(ending(saying, ()), ())
            self.assertEqual(ending(saying, ((fresh(saying, 1), 1),)), ())
        self.assertEqual(ending(SUM, ((note((False, -2)), 30), (note((True, 6)), 10))), ())
        self.assertEqual(ending(REST, ((note((False, 1)), 3),)), ())

    def test_of_a_calm_crowd(self):
        idle, lead = member((False, 0, True)), member((True, 2, True))
        full, more = member((True, 3, True)), member((False, 2, True))
        for there in (((idle, 4), (lead, 1)), ((more, 4), (full, 1)), ((idle, GREAT), (more, GREAT), (full, 1))):
            self.assertIs(is_calm(SUM, there), True)
            self.assertEqual(ending(SUM, there), ())

    def test_of_two_and_three(self):
        for saying in (SUM, REST, BOTH):
            for counts in ((2, 0), (0, 2), (1, 1), (2, 1), (1, 2), (3, 0)):
                self.ends(saying, crowd_of(saying, counts))

    def test_where_only_words_are_wrong(self):
        wrong, lead = member((False, 0, False)), member((True, 2, True), sort=1)
        there = ((wrong, 5), (lead, 1))
        row = ending(SUM, there)
        self.assertEqual(shifts(SUM, row), 0)
        self.assertEqual(done(SUM, there, row), ((member((False, 0, True)), 5), (lead, 1)))

    def test_where_somebody_left_or_turned(self):
        there = crowd_of(BOTH, (3, 3))
        for sort in (0, 1):
            state = fresh(BOTH, sort)
            for many in (1, 2, 3):
                self.ends(BOTH, left(BOTH, there, state, many=many))
                self.ends(BOTH, turned(BOTH, there, state, 1 - sort, many=many))
                self.ends(BOTH, left(BOTH, turned(BOTH, there, state, 1 - sort, many=many), fresh(BOTH, 1 - sort)))

    def test_of_sixty_fresh_ones(self):
        chance = random.Random(51)
        for simple_ones in range(1, 7):
            saying = some_saying(chance, simple_ones=simple_ones, sorts=3)
            for counts in ((20, 20, 20), (60, 0, 0), (1, 58, 1)):
                self.ends(saying, crowd_of(saying, counts))

    def test_of_drawn_crowds(self):
        chance = random.Random(52)
        leading = 0
        for simple_ones in list(range(1, 7)) * 12:
            saying = some_saying(chance, simple_ones=simple_ones)
            there = great_history(saying, chance, 60)
            self.assertLessEqual(len(individuals(there)), 60)
            notes = [state for state in individuals(there) if state[0] == "note"]
            leading += any(hold[0] for state in notes for hold in state[1])
            self.ends(saying, there)
        self.assertGreater(leading, 20)

    def test_of_sound_crowds_where_others_lead_in_others(self):
        chance = random.Random(55)
        apart = 0
        for simple_ones in list(range(1, 7)) * 25:
            saying = some_saying(chance, simple_ones=simple_ones)
            there = some_sound_crowd(saying, chance, chance.choice((2, 5, 20)))
            self.assertIs(is_crowd(saying, there), True)
            if len(individuals(there)) <= 60:
                apart += any(len({hold[0] for hold in state[-1]}) == 2 for state, _ in there)
                self.ends(saying, there)
        self.assertGreater(apart, 50)

    def test_words_that_two_who_lead_would_turn_for_ever(self):
        # who leads in the second hears from the other two by turns, as long as these don't meet
        saying = ("and", ("sum", (1, -1, 0), 0), ("sum", (1, -1, 0), 1))
        hub = member((False, 0, True), (True, 0, False), sort=2)
        one = member((True, 1, True), (False, 1, False))
        other = member((True, -1, False), (False, -1, False), sort=1)
        self.ends(saying, tuple(sorted(((hub, 1), (one, 1), (other, 1)))))
        hub = member((False, 0, True), (True, 0, False))
        saying = ("and", ("sum", (0, 1, -1), 0), ("sum", (0, 1, -1), 1))
        one = member((True, 1, True), (False, 1, False), sort=1)
        other = member((True, -1, False), (False, -1, False), sort=2)
        self.ends(saying, ((hub, 1), (one, 1), (other, 1)))

    def test_of_drawn_small_crowds(self):
        chance = random.Random(53)
        for _ in range(150):
            saying = some_saying(chance)
            self.ends(saying, some_history(saying, chance, 40, most=9)[-1])

    def test_where_all_but_one_left(self):
        chance = random.Random(54)
        for simple_ones in (1, 2, 3, 6):
            saying = some_saying(chance, simple_ones=simple_ones, sorts=2)
            there = crowd_of(saying, (15, 15))
            for _ in range(20):
                there = done(saying, there, ((1, (tuple(chance.sample(individuals(there), 2)),)),))
            while len(members_in(there)) > 1:
                there = left(saying, there, chance.choice(members_in(there)))
            self.ends(saying, there)
            self.ends(saying, left(saying, there, members_in(there)[0]))

    def test_somewhat_more_than_sixty(self):
        self.ends(SUM, crowd_of(SUM, (40, 40)))


class LooksEndedTest(AnswersTest):
    IDLE, LEAD, UP, DOWN = member((False, 0, True)), member((True, 3, True)), fresh(SUM, 0), fresh(SUM, 1)
    CALM = ((IDLE, 2), (LEAD, 1))
    TWO = ((UP, 1), (DOWN, 1))
    MEETING = ((UP, DOWN),)

    def yes(self, there, *rows):
        self.answers(True, lambda row: looks_ended(SUM, there, row), *rows)

    def no(self, there, *rows):
        self.answers(False, lambda row: looks_ended(SUM, there, row), *rows)

    def test_no_parts(self):
        self.yes(self.CALM, ())
        self.yes((), ())
        self.yes(((note((True, 4)), 5),), ())
        self.no(self.TWO, ())
        self.no(((self.UP, 2),), ())

    def test_a_row_that_leads_there(self):
        self.yes(self.TWO, ((1, self.MEETING),), ((1, ((self.DOWN, self.UP),)),))
        self.yes(self.CALM, ((1, ((self.IDLE, self.IDLE), (self.LEAD, self.IDLE))),),
                 ((GREAT, ((self.LEAD, self.IDLE),)),))
        self.yes(((note((True, 4)), 5),), ((3, ((note((True, 4)), note((True, 4))),)),))

    def test_a_row_that_cant_be_done(self):
        self.no(self.TWO, ((2, self.MEETING),), ((1, self.MEETING * 2),), ((1, self.MEETING), (1, self.MEETING)),
                ((1, ((self.UP, self.UP),)),), ((1, self.MEETING), (1, ((self.LEAD, self.IDLE),))))
        self.no(self.CALM, ((1, self.MEETING),), ((1, ((self.LEAD, self.LEAD),)),))
        self.no((), ((1, self.MEETING),))

    def test_a_row_that_ends_short_of_the_calm(self):
        self.no(((self.UP, 2), (self.DOWN, 1)), ((1, self.MEETING),))
        self.no(((member((False, 0, False)), 2), (self.LEAD, 1)), ((1, ((self.LEAD, member((False, 0, False))),)),))
        self.yes(((member((False, 0, False)), 2), (self.LEAD, 1)), ((2, ((self.LEAD, member((False, 0, False))),)),))

    def test_times(self):
        for times in (0, -1, -GREAT, True, False, None, "1", (1,), [1], Agreeing(), b"1"):
            self.no(self.TWO, ((times, self.MEETING),))
            self.no(self.CALM, ((times, ((self.LEAD, self.IDLE),)),),
                    ((1, ((self.LEAD, self.IDLE),)), (times, ((self.LEAD, self.IDLE),))))
        self.yes(self.CALM, ((GREAT, ((self.LEAD, self.IDLE),)),))

    def test_rounds_and_pairs(self):
        one, other = self.LEAD, self.IDLE
        self.yes(self.CALM, ((1, ((one, other),)),))
        self.no(self.CALM, ((1, ()),), ((1, ((one, other), ())),), ((1, ((one, other, other),)),), ((1, ((one,),)),),
                ((1, (one, other)),), ((1, one),), ((1,),), ((1, ((one, other),), 1),), (1, ((one, other),)), (1,), 1,
                ((((one, other),), 1),), ((),), ((1, ((one, other),)), ()))

    def test_lists_and_texts(self):
        one, other = self.LEAD, self.IDLE
        self.no(self.CALM, [], [(1, ((one, other),))], ([1, ((one, other),)],), ((1, [(one, other)]),),
                ((1, ([one, other],)),), ((1, ((list(one), other),)),), ((1, ((one, list(other)),)),), "", "row",
                ("row",), ((1, "row"),), ((1, ("ab",)),), ((1, (("a", "b"),)),), {}, {1: 2}, ((1, {one: other}),))

    def test_states_of_another_saying(self):
        for one, other in ((fresh(BOTH, 0), fresh(BOTH, 1)), (member((True, 9, True)), self.IDLE),
                           (self.IDLE, member((False, 0, True), sort=2)), (self.IDLE, note((False, 0))),
                           (self.LEAD, member((False, 0, 1))), (member((True, 3, False)), self.IDLE)):
            self.no(self.CALM, ((1, ((one, other),)),), ((1, ((self.LEAD, self.IDLE), (one, other))),))

    def test_anything(self):
        for thing in odd_things():
            self.no(self.CALM, thing, (thing,), ((1, thing),), ((1, (thing,)),), ((1, ((self.LEAD, thing),)),),
                    ((1, ((thing, self.LEAD),)),), ((1, ((self.LEAD, self.IDLE),)), thing))
            if isinstance(thing, bool) or not isinstance(thing, int):
                self.no(self.CALM, ((thing, ((self.LEAD, self.IDLE),)),))

    def test_things_nested_thirty_deep(self):
        for wrap in (lambda core: (core,), lambda core: (1, core), lambda core: ((1, core),),
                     lambda core: (1, (core, core)), lambda core: [core], lambda core: {"a": core}):
            self.no(self.CALM, nested(self.LEAD, wrap, 14), nested((), wrap, 15), nested((), wrap, 30))

    def test_of_several_simple_ones(self):
        there = crowd_of(BOTH, (1, 1))
        one, other = fresh(BOTH, 0), fresh(BOTH, 1)
        self.assertIs(looks_ended(BOTH, there, ((1, ((one, other),)),)), True)
        self.assertIs(looks_ended(BOTH, there, ()), False)
        self.assertEqual(len(simples(BOTH)), 2)

    def test_nothing_is_changed_and_the_same_is_told_again(self):
        thing = ([1, [(self.LEAD, [self.IDLE])]], {"a": [1]})
        ahead = copy.deepcopy(thing)
        self.no(self.CALM, thing, thing)
        self.assertEqual(thing, ahead)


if __name__ == "__main__":
    unittest.main()
