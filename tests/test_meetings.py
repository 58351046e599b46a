import itertools
import unittest

from strangersay.meetings import is_shift, meet
from strangersay.sayings import simples
from strangersay.sizes import says
from strangersay.states import is_state
from tests.samples import BOTH, REST, SUM, all_states, member, note


class MeetTest(unittest.TestCase):
    def check(self, saying, one, other, first, second):
        for state in (one, other):
            self.assertIs(is_state(saying, state), True)
        self.assertEqual(meet(saying, one, other), (first, second))

    def test_members_of_a_sum_the_first_leads(self):
        for number, other, kept, over in ((1, 1, 2, 0), (2, 2, 3, 1), (3, 3, 3, 3), (-1, -1, -2, 0), (-2, -3, -3, -2),
                                          (3, -3, 0, 0), (3, 0, 3, 0), (-3, 1, -2, 0), (0, -3, -3, 0)):
            for word in (True, False):
                self.check(SUM, member((True, number, number >= 1)), member((False, other, word), sort=1),
                           member((True, kept, kept >= 1)), member((False, over, kept >= 1), sort=1))

    def test_members_of_a_sum_the_second_leads(self):
        for number, other, kept, over in ((2, 2, 3, 1), (1, -3, -2, 0), (-3, -3, -3, -3), (0, 1, 1, 0)):
            for word in (True, False):
                self.check(SUM, member((False, number, word)), member((True, other, other >= 1), sort=1),
                           member((False, over, kept >= 1)), member((True, kept, kept >= 1), sort=1))

    def test_members_of_a_sum_both_lead(self):
        for number, other, kept, over in ((2, 2, 3, 1), (2, -3, -1, 0), (-3, -1, -3, -1), (0, 0, 0, 0)):
            self.check(SUM, member((True, number, number >= 1)), member((True, other, other >= 1), sort=1),
                       member((True, kept, kept >= 1)), member((False, over, kept >= 1), sort=1))

    def test_members_none_leads(self):
        for saying, number, other in ((SUM, 3, 2), (SUM, -1, 0), (REST, 2, 1), (REST, 0, 0)):
            for word, words in itertools.product((True, False), repeat=2):
                one, two = member((False, number, word)), member((False, other, words), sort=1)
                self.check(saying, one, two, one, two)

    def test_members_of_a_rest(self):
        for number, other in itertools.product(range(3), repeat=2):
            kept = (number + other) % 3
            leading, following = (True, kept, kept == 1), (False, 0, kept == 1)
            for word in (True, False):
                self.check(REST, member((True, number, number == 1)), member((False, other, word), sort=1),
                           member(leading), member(following, sort=1))
                self.check(REST, member((False, number, word)), member((True, other, other == 1), sort=1),
                           member(following), member(leading, sort=1))
            self.check(REST, member((True, number, number == 1)), member((True, other, other == 1), sort=1),
                       member(leading), member(following, sort=1))

    def test_a_member_and_a_note_of_a_sum(self):
        # the member's number, the note's, what the member has then, what the note has then
        for number, noted, kept, over in ((1, 1, 2, 0), (3, 6, 3, 6), (-3, -6, -3, -6), (3, -6, -3, 0), (2, -6, -3, -1),
                                          (-3, 4, 1, 0), (0, 6, 3, 3), (0, -1, -1, 0)):
            for leads, led in ((True, False), (False, True), (True, True)):
                then = None if over == 0 else note((False, over))
                mine = member((leads, number, number >= 1))
                new = member((True, kept, kept >= 1))
                self.check(SUM, mine, note((led, noted)), new, then)
                self.check(SUM, note((led, noted)), mine, then, new)

    def test_a_member_and_a_note_none_leads(self):
        for number, noted, kept, over in ((1, 1, 2, 0), (3, 2, 3, 2), (-3, 6, 3, 0), (2, -6, -3, -1)):
            for word in (True, False):
                then = None if over == 0 else note((False, over))
                mine, new = member((False, number, word), sort=1), member((False, kept, word), sort=1)
                self.check(SUM, mine, note((False, noted)), new, then)
                self.check(SUM, note((False, noted)), mine, then, new)

    def test_a_note_that_leads_with_nothing(self):
        self.check(SUM, note((True, 0)), member((False, 1, False)), None, member((True, 1, True)))
        self.check(SUM, member((True, 1, True)), note((True, 0)), member((True, 1, True)), None)
        self.check(REST, member((False, 2, True)), note((True, 0)), member((True, 2, False)), None)

    def test_a_member_and_a_note_of_a_rest(self):
        for number, noted in itertools.product(range(3), range(3)):
            kept = (number + noted) % 3
            for leads, led, word in itertools.product((True, False), repeat=3):
                if (not led and noted == 0) or (leads and word != (number == 1)):
                    continue
                mine = member((leads, number, word))
                new = member((leads or led, kept, kept == 1 if leads or led else word))
                self.check(REST, mine, note((led, noted)), new, None)
                self.check(REST, note((led, noted)), mine, None, new)

    def test_two_notes(self):
        for saying, one, other in ((SUM, note((True, 6)), note((True, -6))), (SUM, note((False, 1)), note((True, 0))),
                                   (REST, note((True, 2)), note((False, 1))), (SUM, note((True, 1)), note((True, 1)))):
            self.check(saying, one, other, one, other)

    def test_several_simple_ones_each_by_itself(self):
        self.check(BOTH, member((True, 2, False), (False, 3, False)), member((True, 2, False), (True, 2, True), sort=1),
                   member((True, 1, True), (False, 2, True)), member((False, 0, True), (True, 3, True), sort=1))
        self.check(BOTH, member((False, 2, True), (True, 0, False)), member((False, 1, True), (False, -3, True)),
                   member((False, 2, True), (True, -3, False)), member((False, 1, True), (False, 0, False)))

    def test_several_simple_ones_and_a_note(self):
        mine = member((False, 2, True), (True, 2, True))
        self.check(BOTH, mine, note((True, 2), (False, 6)), member((True, 1, True), (True, 3, True)),
                   note((False, 0), (False, 5)))
        self.check(BOTH, note((False, 2), (False, -1)), mine, None, member((False, 1, True), (True, 1, True)))

    def test_words_follow_who_leads(self):
        self.check(SUM, member((True, 1, True)), member((False, 0, False)), member((True, 1, True)),
                   member((False, 0, True)))

    def test_all_pairs_keep_what_they_are_worth(self):
        for simple in (("sum", (1, -2), 1), ("sum", (0,), -1), ("rest", (1, -1), 1, 2), ("rest", (2,), 2, 3)):
            for one, other in itertools.product(all_states(simple), repeat=2):
                both = [state for state in meet(simple, one, other) if state is not None]
                for state in both:
                    self.assertIs(is_state(simple, state), True)
                ahead = one[-1][0][1] + other[-1][0][1]
                behind = sum(state[-1][0][1] for state in both)
                self.assertEqual((behind - ahead) % (simple[3] if simple[0] == "rest" else 10 ** 9), 0)
                led = one[-1][0][0] or other[-1][0][0]
                self.assertEqual(led, any(state[-1][0][0] for state in both))
                self.assertEqual([state[:-1] for state in (one, other) if state[0] == "member"],
                                 [state[:-1] for state in both if state[0] == "member"])

    def test_each_simple_one_is_changed_as_if_it_were_alone(self):
        rest, total = ("rest", (1,), 1, 2), ("sum", (1,), 1)
        saying = ("or", total, rest)
        self.assertEqual(simples(saying), (rest, total))
        rests = [state for state in all_states(rest) if state[0] == "member"]
        totals = [state for state in all_states(total) if state[0] == "member"]
        for one, other in itertools.product(itertools.product(rests, totals[::3]), repeat=2):
            first, second = meet(saying, member(one[0][2][0], one[1][2][0]), member(other[0][2][0], other[1][2][0]))
            for at, simple in enumerate((rest, total)):
                alone = meet(simple, one[at], other[at])
                self.assertEqual((first[2][at], second[2][at]), (alone[0][2][0], alone[1][2][0]))


class IsShiftTest(unittest.TestCase):
    def test_a_number_or_who_leads(self):
        for saying, one, other, so in (
            (SUM, member((True, 1, True)), member((False, 1, True)), True),
            (SUM, member((False, -1, True)), member((True, 1, True)), True),
            (SUM, member((True, 0, False)), member((True, 0, False)), True),
            (SUM, member((True, 3, True)), member((False, 3, True)), False),
            (SUM, member((True, 2, True)), member((False, 3, True)), True),
            (SUM, member((True, 3, True)), member((False, 0, True)), False),
            (SUM, member((True, 3, True)), member((False, 0, False)), False),
            (SUM, member((False, 2, False)), member((True, 3, True)), False),
            (SUM, member((False, 2, False)), member((False, 3, True)), False),
            (REST, member((True, 1, True)), member((False, 0, False)), False),
            (REST, member((True, 1, True)), member((False, 1, True)), True),
            (REST, member((True, 0, False)), member((True, 0, False)), True),
            (REST, member((False, 2, False)), member((False, 2, True)), False),
            (SUM, member((True, 3, True)), note((False, 4)), False),
            (SUM, note((False, 4)), member((True, 3, True)), False),
            (SUM, member((True, 2, True)), note((False, 4)), True),
            (SUM, member((True, 3, True)), note((True, 4)), True),
            (SUM, member((False, 3, False)), note((False, 4)), False),
            (SUM, member((False, 3, False)), note((False, -4)), True),
            (SUM, note((True, 0)), member((True, 1, True)), True),
            (SUM, member((False, 1, True)), note((True, 0)), True),
            (REST, note((False, 1)), member((False, 1, True)), True),
            (SUM, note((True, 6)), note((True, -6)), False),
            (REST, note((True, 1)), note((True, 2)), False),
        ):
            with self.subTest((one, other)):
                self.assertIs(is_shift(saying, one, other), so)

    def test_of_several_one_is_enough(self):
        still = (False, 0, True)
        self.assertIs(is_shift(BOTH, member((True, 1, True), still), member((False, 1, True), still)), True)
        self.assertIs(is_shift(BOTH, member(still, (True, 0, False)), member(still, (True, 0, False))), True)
        self.assertIs(is_shift(BOTH, member((True, 1, True), still), member((False, 0, False), still)), False)

    def test_all_pairs(self):
        for simple in (("sum", (1, -2), 1), ("rest", (1, -1), 1, 2), ("rest", (2,), 2, 3)):
            for one, other in itertools.product(all_states(simple), repeat=2):
                changed = False
                for ahead, behind in zip((one, other), meet(simple, one, other)):
                    then = (False, 0) if behind is None else behind[-1][0][:2]
                    changed = changed or then != ahead[-1][0][:2]
                self.assertIs(is_shift(simple, one, other), changed)

    def test_leaders_words_are_right_behind_a_meeting(self):
        for simple in (("sum", (1, -2), -2), ("rest", (2,), 2, 3)):
            members = [state for state in all_states(simple) if state[0] == "member"]
            for one, other in itertools.product(members, repeat=2):
                if one[2][0][0] or other[2][0][0]:
                    holds = [state[2][0] for state in meet(simple, one, other)]
                    leading = [hold for hold in holds if hold[0]]
                    self.assertEqual(len(leading), 1)
                    self.assertEqual({hold[2] for hold in holds}, {says(simple, leading[0][1])})


if __name__ == "__main__":
    unittest.main()
