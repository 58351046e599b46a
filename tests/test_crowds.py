import copy
import unittest

from strangersay.crowds import counts_of, crowd_of, is_crowd, notes_in, words_in
from strangersay.states import fresh
from tests.samples import BOTH, REST, SUM, Agreeing, AnswersTest, odd_things

GREAT = 10 ** 30 - 1
A = ("member", 0, ((False, 0, True),))
B = ("member", 0, ((True, 2, True),))
C = ("member", 1, ((True, -3, False),))
D = ("note", ((False, 1),))
E = ("note", ((True, -6),))


class IsCrowdTest(AnswersTest):
    def yes(self, saying, *things):
        self.answers(True, lambda thing: is_crowd(saying, thing), *things)

    def no(self, saying, *things):
        self.answers(False, lambda thing: is_crowd(saying, thing), *things)

    def test_ordinary(self):
        self.yes(SUM, (), ((A, 1),), ((A, 1), (B, 2), (C, 3), (D, 4), (E, 5)), ((D, 1),), ((B, GREAT), (E, GREAT)))
        self.yes(BOTH, (), ((fresh(BOTH, 0), 1), (fresh(BOTH, 1), 1)))

    def test_anything_is_answered_by_a_truth(self):
        for saying in (SUM, REST, BOTH):
            self.no(saying, *odd_things())

    def test_anything_as_a_part(self):
        for thing in odd_things():
            self.no(SUM, (thing,), ((A, 1), thing), (thing, (A, 1)), ((thing, 1),), ((A, 1), (thing, 1)))
            if isinstance(thing, bool) or not isinstance(thing, int):
                self.no(SUM, ((A, thing),))

    def test_rising_and_none_twice(self):
        self.no(SUM, ((B, 1), (A, 1)), ((A, 1), (A, 1)), ((A, 1), (A, 2)), ((D, 1), (C, 1)), ((E, 1), (D, 1)),
                ((A, 1), (C, 1), (B, 1)), ((A, 1), (B, 1), (B, 2)))

    def test_how_many(self):
        self.yes(SUM, ((A, 1),), ((A, GREAT),))
        self.no(SUM, ((A, 0),), ((A, -1),), ((A, True),), ((A, False),), ((A, None),), ((A, "1"),), ((A, (1,)),),
                ((A, Agreeing()),), ((A, 1), (B, 0)))

    def test_forms(self):
        self.no(SUM, [], [(A, 1)], ([A, 1],), ((A,),), ((A, 1, 1),), (A, 1), A, ((1, A),), {A: 1}, ((list(A), 1),))

    def test_states_of_another_saying(self):
        self.no(REST, ((C, 1),), ((E, 1),))
        self.no(BOTH, ((A, 1),), ((D, 1),))
        self.no(SUM, ((fresh(BOTH, 0), 1),), ((("note", ((False, 0),)), 1),), ((("member", 2, ((True, 1, True),)), 1),))

    def test_nothing_is_changed(self):
        thing = ([A, [1]], {"a": [B]})
        ahead = copy.deepcopy(thing)
        self.assertIs(is_crowd(SUM, thing), False)
        self.assertIs(is_crowd(SUM, thing), False)
        self.assertEqual(thing, ahead)


class CrowdOfTest(unittest.TestCase):
    def test_ordinary(self):
        self.assertEqual(crowd_of(SUM, (2, 5)), ((B, 2), (C, 5)))
        self.assertEqual(crowd_of(SUM, (0, 5)), ((C, 5),))
        self.assertEqual(crowd_of(SUM, (2, 0)), ((B, 2),))

    def test_nobody_and_thirty_figures(self):
        self.assertEqual(crowd_of(SUM, (0, 0)), ())
        self.assertEqual(crowd_of(SUM, (GREAT, 1)), ((B, GREAT), (C, 1)))

    def test_alike_holds_of_other_sorts_stay_apart(self):
        saying = ("sum", (1,) * 6, 0)
        crowd = crowd_of(saying, (1, 2, 3, 0, 5, 6))
        self.assertEqual(crowd, tuple((fresh(saying, sort), sort + 1) for sort in (0, 1, 2, 4, 5)))
        self.assertIs(is_crowd(saying, crowd), True)

    def test_told_is_a_crowd_with_its_counts(self):
        for saying in (SUM, REST, BOTH):
            for counts in ((0, 0), (1, 0), (0, 1), (7, 9), (GREAT, GREAT)):
                crowd = crowd_of(saying, counts)
                self.assertIs(is_crowd(saying, crowd), True)
                self.assertEqual(counts_of(saying, crowd), counts)
                self.assertEqual(notes_in(crowd), 0)


class AskedTest(unittest.TestCase):
    CROWD = ((A, 1), (B, 20), (C, 300), (D, 4000), (E, 50000))

    def test_counts(self):
        self.assertEqual(counts_of(SUM, self.CROWD), (21, 300))
        self.assertEqual(counts_of(SUM, ()), (0, 0))
        self.assertEqual(counts_of(SUM, ((D, 4),)), (0, 0))
        self.assertEqual(counts_of(SUM, ((A, GREAT), (B, GREAT))), (2 * GREAT, 0))

    def test_notes(self):
        self.assertEqual(notes_in(self.CROWD), 54000)
        self.assertEqual(notes_in(()), 0)
        self.assertEqual(notes_in(((A, 4),)), 0)
        self.assertEqual(notes_in(((A, 4), (D, GREAT), (E, 1))), GREAT + 1)

    def test_words(self):
        self.assertEqual(words_in(SUM, self.CROWD), (21, 300))
        self.assertEqual(words_in(("not", SUM), self.CROWD), (300, 21))
        self.assertEqual(words_in(SUM, ()), (0, 0))
        self.assertEqual(words_in(SUM, ((D, 4),)), (0, 0))
        self.assertEqual(words_in(SUM, ((B, GREAT), (C, GREAT - 1))), (GREAT, GREAT - 1))

    def test_words_of_joined_ones(self):
        states = [("member", 0, ((False, 0, rest), (False, 0, total))) for rest in (False, True)
                  for total in (False, True)]
        crowd = tuple((state, 10 ** at) for at, state in enumerate(states))
        self.assertIs(is_crowd(BOTH, crowd), True)
        self.assertEqual(words_in(BOTH, crowd), (10, 1101))
        self.assertEqual(words_in(("or", SUM, REST), crowd), (1110, 1))


if __name__ == "__main__":
    unittest.main()
