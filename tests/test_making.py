import copy
import random
import unittest

from strangersay.crowds import crowd_of
from strangersay.errors import NoMeeting, TooMany
from strangersay.making import holds_made, made
from strangersay.meetings import meet
from strangersay.rounds import done
from strangersay.sayings import is_saying, sorts_of
from strangersay.states import fresh, is_state, word_of
from strangersay.tables import first_crowd, is_table, table_done, table_stirs
from tests.draws import individuals, small_sayings, some_saying
from tests.samples import BOTH, EVEN, REST, SIXTY, SIXTY_ONE, SOME


def all_holds(saying):
    """What holds_made tells, by letting all meet again and again."""
    found = {fresh(saying, sort)[2] for sort in range(sorts_of(saying))}
    while True:
        behind = {state[2] for one in found for other in found
                  for state in meet(saying, ("member", 0, one), ("member", 0, other))}
        if behind <= found:
            return tuple(sorted(found))
        found |= behind


class HoldsMadeTest(unittest.TestCase):
    def test_by_hand(self):
        self.assertEqual(holds_made(("sum", (0,), 0)), (((False, 0, True),), ((True, 0, True),)))
        self.assertEqual(holds_made(("sum", (0,), 1)), (((False, 0, False),), ((True, 0, False),)))
        self.assertEqual(holds_made(EVEN), (((False, 0, False),), ((False, 0, True),), ((True, 0, True),),
                                            ((True, 1, False),)))
        self.assertEqual(holds_made(SOME), (((False, 0, True),), ((False, 1, True),), ((False, 2, True),),
                                            ((True, 1, True),), ((True, 2, True),)))

    def test_of_a_bound_that_two_reach(self):
        # of size 3: one alone says no, and tells it to one who has nothing; two or more say yes
        self.assertEqual(holds_made(("sum", (1,), 2)),
                         (((False, 0, False),), ((False, 0, True),), ((False, 1, True),), ((False, 2, True),),
                          ((False, 3, True),), ((True, 1, False),), ((True, 2, True),), ((True, 3, True),)))

    def test_of_two_sorts_by_hand(self):
        # of size 1: who leads is at -1, 0 or 1, and none but those at the ends leave something over
        saying = ("sum", (1, -1), 0)
        self.assertEqual(holds_made(saying),
                         (((False, -1, False),), ((False, 0, False),), ((False, 0, True),), ((False, 1, True),),
                          ((True, -1, False),), ((True, 0, True),), ((True, 1, True),)))

    def test_as_all_meetings_tell(self):
        for saying in small_sayings():
            told = holds_made(saying)
            self.assertEqual(told, all_holds(saying))
            for holds in told:
                self.assertIs(is_state(saying, ("member", 0, holds)), True)
            self.assertEqual(holds_made(saying), told)

    def test_what_real_crowds_come_to(self):
        chance = random.Random(82)
        for saying in (EVEN, SOME, ("sum", (1, -1), 0), ("or", EVEN, SOME)):
            seen = set()
            for _ in range(300):
                there = crowd_of(saying, tuple(chance.randint(1, 5) for _ in range(sorts_of(saying))))
                for _ in range(12):
                    seen |= {state[2] for state, _ in there}
                    if len(individuals(there)) > 1:
                        there = done(saying, there, ((1, (tuple(chance.sample(individuals(there), 2)),)),))
            self.assertEqual(holds_made(saying), tuple(sorted(seen)))

    def test_sixty_and_one_more(self):
        for saying, many in ((SIXTY, 60), (SIXTY_ONE, 61)):
            self.assertIs(is_saying(saying), True)
            self.assertEqual(len(all_holds(saying)), many)
        self.assertEqual(len(holds_made(SIXTY)), 60)
        self.assertEqual(made(SIXTY)[1], 60)
        for asked in (holds_made, made):
            ahead = copy.deepcopy(SIXTY_ONE)
            self.assertRaises(TooMany, asked, SIXTY_ONE)
            self.assertEqual(SIXTY_ONE, ahead)

    def test_far_too_many(self):
        for saying in (("sum", (9, -8), 20), ("and", ("sum", (1, -1), 3), ("rest", (1, 2), 0, 9)),
                       some_saying(random.Random(83), simple_ones=6)):
            self.assertRaises(TooMany, holds_made, saying)
            self.assertRaises(TooMany, made, saying)


class MadeTest(unittest.TestCase):
    def test_by_hand(self):
        # 0: follows, no; 1: follows, yes; 2: leads, even; 3: leads, odd
        self.assertEqual(made(EVEN), (
            "table", 4, (3,), (False, True, True, False),
            ((0, 2, 1, 2), (1, 3, 0, 3), (2, 0, 2, 1), (2, 2, 2, 1), (2, 3, 3, 0), (3, 1, 3, 0), (3, 2, 3, 0),
             (3, 3, 2, 1))))
        self.assertEqual(made(("not", EVEN))[2:4], ((3,), (True, False, False, True)))
        self.assertEqual(made(("sum", (0,), 0)), ("table", 2, (1,), (True, True), ((1, 1, 1, 0),)))

    def test_of_a_sum_by_hand(self):
        # 0, 1 and 2: follow with 0, 1 and 2; 3 and 4: lead with 1 and 2
        self.assertEqual(made(SOME), (
            "table", 5, (3,), (True,) * 5,
            ((1, 3, 0, 4), (2, 3, 1, 4), (3, 1, 4, 0), (3, 2, 4, 1), (3, 3, 4, 0), (3, 4, 4, 1), (4, 3, 4, 1),
             (4, 4, 4, 2))))

    def test_two_sorts_with_one_first_state(self):
        table = made(REST)
        self.assertEqual(table[2][0], table[2][1])
        table = made(("sum", (1, -1), 0))
        self.assertEqual(table[2], (6, 4))

    def test_states_firsts_and_words(self):
        for saying in small_sayings():
            table = made(saying)
            states = holds_made(saying)
            self.assertIs(is_table(table), True)
            self.assertEqual(table[1], len(states))
            self.assertEqual(table[2], tuple(states.index(fresh(saying, sort)[2]) for sort in range(sorts_of(saying))))
            self.assertEqual(table[3], tuple(word_of(saying, ("member", 0, holds)) for holds in states))

    def test_each_row_is_just_what_meet_does(self):
        for saying in small_sayings():
            states = holds_made(saying)
            rows = {row[:2]: row[2:] for row in made(saying)[4]}
            for p, one in enumerate(states):
                for q, other in enumerate(states):
                    last = sorts_of(saying) - 1
                    first, second = meet(saying, ("member", 0, one), ("member", last, other))
                    then = rows.get((p, q), (p, q))
                    self.assertEqual((states[then[0]], states[then[1]]), (first[2], second[2]))
                    self.assertEqual((p, q) in rows, (first[2], second[2]) != (one, other))

    def test_it_does_just_what_the_rule_does(self):
        chance = random.Random(84)
        for saying in small_sayings():
            table, states = made(saying), holds_made(saying)
            counts = tuple(chance.randint(0, 4) for _ in range(sorts_of(saying)))
            there, numbered = crowd_of(saying, counts), first_crowd(table, counts)
            for _ in range(15):
                self.assertEqual(self.as_numbers(states, there), numbered)
                if len(individuals(there)) > 1:
                    pair = tuple(chance.sample(individuals(there), 2))
                    there = done(saying, there, ((1, (pair,)),))
                    numbered = table_done(table, numbered, ((1, (tuple(states.index(one[2]) for one in pair),)),))

    def as_numbers(self, states, there):
        manys = [0] * len(states)
        for state, many in there:
            manys[states.index(state[2])] += many
        return tuple(manys)

    def test_its_crowds_come_to_rest_and_say_the_truth(self):
        table = made(EVEN)
        for many in range(1, 9):
            crowd = first_crowd(table, (many,))
            while table_stirs(table, crowd):
                crowd = table_done(table, crowd, ((1, table_stirs(table, crowd)[-1:]),))
            self.assertEqual({table[3][state] for state in range(4) if crowd[state]}, {many % 2 == 0})

    def test_refused_like_done(self):
        with self.assertRaises(NoMeeting) as caught:
            table_done(made(EVEN), (0, 0, 0, 1), ((1, ((3, 3),)),))
        self.assertEqual(caught.exception.at, 0)

    def test_of_several(self):
        table = made(("and", EVEN, SOME))
        self.assertIs(is_table(table), True)
        self.assertRaises(TooMany, made, ("or", BOTH, ("sum", (9, -8), 20)))


if __name__ == "__main__":
    unittest.main()
