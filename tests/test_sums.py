import copy
import random
import unittest

from strangersay.comings import joined, left, turned
from strangersay.crowds import counts_of, crowd_of
from strangersay.rounds import done
from strangersay.sayings import simples
from strangersay.states import fresh
from strangersay.sums import is_sound, sums
from strangersay.truths import total
from tests.draws import has_members, some_history, some_meeting, some_saying
from tests.samples import BOTH, REST, SUM, member, note

GREAT = 10 ** 30 - 1


class SumsTest(unittest.TestCase):
    def test_of_a_sum(self):
        self.assertEqual(sums(SUM, crowd_of(SUM, (5, 4))), (-2,))
        self.assertEqual(sums(SUM, ((member((False, 3, True)), 2), (member((True, -1, False)), 5))), (1,))

    def test_of_a_sum_members_and_notes_who_lead_and_who_dont(self):
        there = ((member((False, 1, True)), 1), (member((True, 2, True)), 1), (note((False, -3)), 10),
                 (note((True, 6)), 10))
        self.assertEqual(sums(SUM, there), (33,))

    def test_of_a_rest_what_is_left(self):
        for many in range(10):
            self.assertEqual(sums(REST, crowd_of(REST, (many, 0))), (many % 3,))
            self.assertEqual(sums(REST, crowd_of(REST, (0, many))), (-2 * many % 3,))
        there = ((member((False, 2, True)), 1), (member((True, 1, True)), 3), (note((False, 2)), 1),
                 (note((True, 2)), 2))
        self.assertEqual(sums(REST, there), ((2 + 3 + 2 + 4) % 3,))

    def test_of_several_in_their_order(self):
        self.assertEqual(sums(BOTH, crowd_of(BOTH, (5, 4))), ((5 - 8) % 3, -2))
        self.assertEqual(sums(BOTH, crowd_of(BOTH, (2, 0))), (2, 4))
        there = ((member((True, 1, True), (False, -3, True)), 4), (note((False, 0), (True, 5)), 2))
        self.assertEqual(sums(BOTH, there), (1, -2))

    def test_of_nobody(self):
        self.assertEqual(sums(SUM, ()), (0,))
        self.assertEqual(sums(BOTH, ()), (0, 0))

    def test_of_notes_alone(self):
        self.assertEqual(sums(SUM, ((note((False, 4)), 3), (note((True, -6)), 1))), (6,))
        self.assertEqual(sums(REST, ((note((False, 2)), 2),)), (1,))

    def test_of_thirty_figures(self):
        self.assertEqual(sums(SUM, crowd_of(SUM, (GREAT, GREAT))), (-GREAT,))
        self.assertEqual(sums(REST, crowd_of(REST, (GREAT, 0))), (0,))
        self.assertEqual(sums(REST, crowd_of(REST, (GREAT - 1, 0))), (2,))

    def test_of_fresh_ones_it_is_the_total(self):
        chance = random.Random(21)
        for _ in range(100):
            saying = some_saying(chance)
            counts = tuple(chance.randint(0, 20) for _ in simples(saying)[0][1])
            wanted = tuple(total(one, counts) % one[3] if one[0] == "rest" else total(one, counts)
                           for one in simples(saying))
            self.assertEqual(sums(saying, crowd_of(saying, counts)), wanted)


class IsSoundTest(unittest.TestCase):
    def yes(self, saying, *crowds):
        for there in crowds:
            with self.subTest(there):
                self.assertIs(is_sound(saying, there), True)

    def no(self, saying, *crowds):
        for there in crowds:
            with self.subTest(there):
                self.assertIs(is_sound(saying, there), False)

    def test_nobody_and_fresh_ones(self):
        for saying in (SUM, REST, BOTH):
            self.yes(saying, *[crowd_of(saying, counts) for counts in ((0, 0), (1, 0), (0, 1), (7, 9), (GREAT, GREAT))])

    def test_by_joining_leaving_turning_and_meeting(self):
        there = joined(BOTH, (), 0, many=3)
        self.yes(BOTH, there)
        there = done(BOTH, there, ((1, ((fresh(BOTH, 0), fresh(BOTH, 0)),)),))
        self.yes(BOTH, there)
        for state, _ in there:
            self.yes(BOTH, left(BOTH, there, state), turned(BOTH, there, state, 1))

    def test_by_drawn_histories(self):
        chance = random.Random(22)
        for _ in range(60):
            saying = some_saying(chance)
            self.yes(saying, *some_history(saying, chance, 40))

    def test_kept_by_each_meeting(self):
        chance = random.Random(23)
        for _ in range(60):
            saying = some_saying(chance)
            there = some_history(saying, chance, 30)[-1]
            if sum(many for _, many in there) > 1:
                row = ((1, (some_meeting(there, chance),)),)
                self.assertEqual(sums(saying, done(saying, there, row)), sums(saying, there))

    def test_a_number_otherwise(self):
        self.no(SUM, ((member((True, 1, True)), 1),), ((member((True, 3, True)), 1),),
                ((member((True, 2, True), sort=1), 1),), ((member((True, -2, False), sort=1), 1),))
        self.yes(SUM, ((member((True, 2, True)), 1),), ((member((True, -3, False), sort=1), 1),))
        self.no(REST, ((member((True, 0, False)), 1),), ((member((True, 2, False)), 1),),
                ((member((True, 1, True)), 1), (note((False, 2)), 1)))
        self.yes(REST, ((member((True, 1, True)), 1),), ((member((True, 1, True)), 1), (note((False, 1)), 3)))

    def test_a_number_otherwise_in_one_of_several(self):
        self.yes(BOTH, ((member((True, 1, True), (True, 2, True)), 1),))
        self.no(BOTH, ((member((True, 1, True), (True, 3, True)), 1),),
                ((member((True, 2, False), (True, 2, True)), 1),))

    def test_by_drawn_crowds_with_one_number_otherwise(self):
        chance = random.Random(24)
        for _ in range(100):
            saying = some_saying(chance)
            there = some_history(saying, chance, 30)[-1]
            ones = simples(saying)
            at = chance.randrange(len(ones))
            noted = ("note", tuple((False, 1 if at == k else 0) for k in range(len(ones))))
            manys = dict(there)
            manys[noted] = manys.get(noted, 0) + 1
            self.no(saying, tuple(sorted(manys.items())))

    def test_with_nobody_leading(self):
        self.no(SUM, ((member((False, 2, True)), 1),))
        self.no(REST, ((member((False, 1, True)), 1),))
        self.yes(SUM, ((member((True, 2, True)), 1),))

    def test_with_nobody_leading_in_one_of_several(self):
        self.no(BOTH, ((member((True, 1, True), (False, 2, True)), 1),),
                ((member((False, 1, True), (True, 2, True)), 1),), ((member((False, 1, True), (False, 2, True)), 1),))
        self.yes(BOTH, ((member((False, 1, True), (True, 2, True)), 1), (member((True, 1, True), (False, 2, True)), 1)))

    def test_a_note_that_leads_is_enough(self):
        self.yes(SUM, ((member((False, 2, True)), 1), (note((True, 0)), 1)))
        self.yes(BOTH, ((member((True, 1, True), (False, 2, True)), 1), (note((False, 0), (True, 0)), 1)))
        self.no(BOTH, ((member((True, 1, True), (False, 2, True)), 1), (note((True, 0), (False, 0)), 1)))

    def test_notes_alone(self):
        self.yes(SUM, ((note((True, 0)), 4),), ((note((False, -2)), 3), (note((False, 6)), 1)),
                 ((note((False, -2)), 3), (note((True, 6)), 1)))
        self.no(SUM, ((note((True, 1)), 1),), ((note((False, -2)), 2), (note((False, 6)), 1)))
        self.yes(REST, ((note((False, 1)), 3),), ((note((False, 1)), 1), (note((False, 2)), 1)))
        self.no(REST, ((note((False, 1)), 2),))

    def test_two_crowds_parts_mixed(self):
        one = left(SUM, crowd_of(SUM, (2, 1)), fresh(SUM, 0))
        merged = done(SUM, crowd_of(SUM, (1, 1)), ((1, ((fresh(SUM, 0), fresh(SUM, 1)),)),))
        self.yes(SUM, one, merged)
        # who leads of the one crowd with who follows of the other one
        self.no(SUM, tuple(group for group in merged if group[0][2][0][0]),
                tuple(group for group in merged if not group[0][2][0][0]),
                tuple(sorted((*crowd_of(SUM, (0, 1)), *[group for group in merged if group[0][2][0][0]]))))

    def test_drawn_crowds_without_those_who_lead(self):
        chance = random.Random(25)
        seen = 0
        for _ in range(80):
            saying = some_saying(chance)
            there = some_history(saying, chance, 30)[-1]
            at = chance.randrange(len(simples(saying)))
            halved = tuple(group for group in there if not group[0][-1][at][0])
            if has_members(saying, halved):
                seen += 1
                self.no(saying, halved)
        self.assertGreater(seen, 20)

    def test_of_thirty_figures(self):
        there = crowd_of(BOTH, (GREAT, GREAT))
        self.yes(BOTH, left(BOTH, there, fresh(BOTH, 0), many=GREAT),
                 turned(BOTH, there, fresh(BOTH, 0), 1, many=GREAT))
        self.no(BOTH, (*there, (note((False, 0), (False, 1)), 1)))

    def test_what_is_handed_in_stays(self):
        there = crowd_of(BOTH, (2, 3))
        ahead = copy.deepcopy(there)
        self.assertEqual((sums(BOTH, there), is_sound(BOTH, there)), (sums(BOTH, there), is_sound(BOTH, there)))
        self.assertEqual(there, ahead)
        self.assertEqual(counts_of(BOTH, there), (2, 3))


if __name__ == "__main__":
    unittest.main()
