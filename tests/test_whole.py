"""What the document promises over the whole, of houses with drawn histories."""
import random
import unittest

from strangersay.calm import stirs
from strangersay.crowds import is_crowd, notes_in
from strangersay.endings import ending, looks_ended
from strangersay.houses import House
from strangersay.meetings import is_shift
from strangersay.reading import read_crowd, read_saying
from strangersay.sayings import is_saying, simples
from strangersay.showing import show_crowd, show_saying
from strangersay.sizes import left_by, says
from strangersay.states import word_of
from strangersay.sums import is_sound, sums
from strangersay.truths import total
from tests.draws import house_step, individuals, members_in, some_meeting, some_saying


class WholeTest(unittest.TestCase):
    def histories(self, seed, many, steps):
        """Houses with drawn sayings, behind each drawn deed."""
        chance = random.Random(seed)
        for simple_ones in [1, 2, 3, 4, 5, 6] * many:
            saying = some_saying(chance, simple_ones=simple_ones)
            self.assertIs(is_saying(saying), True)
            house = House(saying)
            for _ in range(steps):
                if house.deeds() and chance.random() < 0.1:
                    house.back()
                else:
                    house_step(house, chance)
                yield saying, house, chance

    def is_kept(self, saying, house):
        """(a) of the promise."""
        there = house.crowd()
        self.assertIs(is_crowd(saying, there), True)
        self.assertIs(is_sound(saying, there), True)
        for at, simple in enumerate(simples(saying)):
            worth = left_by(simple, total(simple, house.counts()))
            self.assertEqual(sums(saying, there)[at], worth)
            self.assertEqual(left_by(simple, sum(state[-1][at][1] for state in individuals(there))), worth)
            if members_in(there):
                self.assertTrue(any(state[-1][at][0] for state in individuals(there)))
            for state in members_in(there):
                leads, number, word = state[2][at]
                self.assertTrue(not leads or word is says(simple, number))

    def test_kept(self):
        for saying, house, _ in self.histories(181, 8, 40):
            self.is_kept(saying, house)

    def test_falling(self):
        shifted = stayed = 0
        for saying, house, chance in self.histories(182, 8, 40):
            if len(individuals(house.crowd())) > 1:
                ahead, spent = house.measure(), house.spent()
                one, other = some_meeting(house.crowd(), chance)
                behind, more = house.trial((("do", ((1, ((one, other),)),)),),
                                           lambda this: (this.measure(), this.spent() - spent))
                if is_shift(saying, one, other):
                    self.assertLess(behind, ahead)
                    self.assertEqual(more, 1)
                    shifted += 1
                else:
                    self.assertEqual((behind, more), (ahead, 0))
                    stayed += 1
                self.assertEqual((house.measure(), house.spent()), (ahead, spent))
        self.assertGreater(shifted, 300)
        self.assertGreater(stayed, 300)

    def is_right(self, saying, house):
        """(c) of the promise, of a calm house with a member."""
        there = house.crowd()
        self.assertEqual(notes_in(there), 0)
        for at in range(len(simples(saying))):
            self.assertEqual(sum(state[2][at][0] for state in individuals(there)), 1)
        for state in individuals(there):
            self.assertIs(word_of(saying, state), house.is_true())
        everybody = sum(house.counts())
        self.assertEqual(house.words(), (everybody, 0) if house.is_true() else (0, everybody))

    def test_right_where_it_is_calm(self):
        calm = 0
        for saying, house, _ in self.histories(183, 15, 60):
            if house.is_calm() and members_in(house.crowd()):
                calm += 1
                self.is_right(saying, house)
        self.assertGreater(calm, 100)

    def calmed(self, saying, house, chance):
        """Does drawn meetings in the house, each of which changes something, till it is calm."""
        bound = house.measure()
        spent = house.spent()
        while not house.is_calm():
            house.meet(*chance.choice(stirs(saying, house.crowd())))
            self.assertLessEqual(house.spent() - spent, bound)
        self.is_right(saying, house)

    def test_whoever_gives_the_meetings(self):
        calmed = 0
        for saying, house, chance in self.histories(184, 3, 30):
            if members_in(house.crowd()) and chance.random() < 0.2:
                house.trial((), lambda this: self.calmed(saying, this, chance))
                calmed += 1
        self.assertGreater(calmed, 50)

    def test_a_row_leads_there(self):
        ended = 0
        for saying, house, chance in self.histories(185, 4, 30):
            if members_in(house.crowd()) and chance.random() < 0.3:
                row = ending(saying, house.crowd())
                self.assertIs(looks_ended(saying, house.crowd(), row), True)
                house.trial((("do", row),), lambda this: self.is_right(saying, this))
                ended += 1
        self.assertGreater(ended, 80)

    def test_what_is_written_is_read_as_it_was(self):
        for saying, house, _ in self.histories(186, 5, 25):
            self.assertEqual(read_saying(show_saying(saying)), saying)
            self.assertEqual(read_crowd(saying, show_crowd(house.crowd())), house.crowd())


if __name__ == "__main__":
    unittest.main()
