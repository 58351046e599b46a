import copy
import unittest

from strangersay.sayings import simples
from strangersay.sizes import says, size_of
from strangersay.states import fresh, is_state, word_of
from tests.samples import BOTH, REST, SUM, Agreeing, AnswersTest, member, note, odd_things


class IsStateTest(AnswersTest):
    def yes(self, saying, *things):
        self.answers(True, lambda thing: is_state(saying, thing), *things)

    def no(self, saying, *things):
        self.answers(False, lambda thing: is_state(saying, thing), *things)

    def test_ordinary(self):
        self.yes(SUM, member((True, 2, True)), member((False, 0, False), sort=1), note((True, 0)), note((False, -5)))
        self.yes(REST, member((True, 2, False)), member((True, 1, True), sort=1), note((False, 2)), note((True, 0)))
        self.yes(BOTH, member((True, 1, True), (False, -3, False)), note((False, 0), (False, 1)))

    def test_anything_is_answered_by_a_truth(self):
        for saying in (SUM, REST, BOTH):
            self.no(saying, *odd_things())

    def test_anything_in_any_place(self):
        for thing in odd_things():
            self.no(SUM, ("member", 0, thing), ("member", 0, (thing,)), ("note", thing), ("note", (thing,)))
            if not isinstance(thing, str):
                self.no(SUM, (thing, 0, ((True, 1, True),)), (thing, ((True, 1),)))
            if not isinstance(thing, bool):
                self.no(SUM, member((thing, 1, True)), member((True, 1, thing)), note((thing, 1)))
            if isinstance(thing, bool) or not isinstance(thing, int):
                self.no(SUM, member((True, thing, True)), note((True, thing)), ("member", thing, ((True, 1, True),)))

    def test_sorts(self):
        for sort in (0, 1):
            self.yes(SUM, member((True, 1, True), sort=sort))
        for sort in (-1, 2, 10 ** 30 - 1, True, False, None, "0", (0,)):
            self.no(SUM, member((True, 1, True), sort=sort))
        six = ("sum", (1,) * 6, 0)
        self.yes(six, member((True, 1, True), sort=5))
        self.no(six, member((True, 1, True), sort=6))

    def test_a_members_numbers_of_sums(self):
        for simple in (SUM, ("sum", (0,), 0), ("sum", (1,), 20), ("sum", (1,), -20), ("sum", (-9,), 3)):
            size = size_of(simple)
            for number in range(-size, size + 1):
                word = number >= simple[2]
                self.yes(simple, member((True, number, word)), member((False, number, word)),
                         member((False, number, not word)))
                self.no(simple, member((True, number, not word)))
            for number in (-size - 1, size + 1, -2 * size, 2 * size, 10 ** 30 - 1, -(10 ** 30 - 1)):
                for leads in (True, False):
                    for word in (True, False):
                        self.no(simple, member((leads, number, word)))

    def test_a_members_numbers_of_rests(self):
        for divisor in range(2, 10):
            for rest in range(divisor):
                simple = ("rest", (1,), rest, divisor)
                for number in range(divisor):
                    word = number == rest
                    self.yes(simple, member((True, number, word)), member((False, number, word)),
                             member((False, number, not word)))
                    self.no(simple, member((True, number, not word)))
                for number in (-divisor, -1, divisor, divisor + 1, 10 ** 30 - 1):
                    for leads in (True, False):
                        self.no(simple, member((leads, number, True)), member((leads, number, False)))

    def test_a_notes_numbers_of_sums(self):
        for simple in (SUM, ("sum", (0,), 0), ("sum", (1,), 20), ("sum", (1,), -20), ("sum", (-9,), 3)):
            twice = 2 * size_of(simple)
            for number in range(-twice, twice + 1):
                self.yes(simple, note((True, number)))
                if number:
                    self.yes(simple, note((False, number)))
            for number in (-twice - 1, twice + 1, 10 ** 30 - 1, -(10 ** 30 - 1)):
                self.no(simple, note((True, number)), note((False, number)))

    def test_a_notes_numbers_of_rests(self):
        for divisor in range(2, 10):
            simple = ("rest", (1,), 0, divisor)
            for number in range(divisor):
                self.yes(simple, note((True, number)))
                if number:
                    self.yes(simple, note((False, number)))
            for number in (-divisor, -1, divisor, 2 * divisor - 2, 10 ** 30 - 1):
                self.no(simple, note((True, number)), note((False, number)))

    def test_a_note_that_is_nothing(self):
        self.no(SUM, note((False, 0)))
        self.no(REST, note((False, 0)))
        self.no(BOTH, note((False, 0), (False, 0)))
        self.yes(BOTH, note((False, 0), (True, 0)), note((True, 0), (False, 0)), note((False, 1), (False, 0)),
                 note((False, 0), (False, -1)))
        self.yes(BOTH, member((False, 0, False), (False, 0, False)))

    def test_a_leaders_word_in_each_simple_one(self):
        self.yes(BOTH, member((True, 1, True), (True, 1, True)), member((True, 0, False), (True, 0, False)),
                 member((False, 1, False), (True, 1, True)), member((True, 1, True), (False, 1, False)))
        self.no(BOTH, member((True, 1, False), (True, 1, True)), member((True, 1, True), (True, 1, False)))

    def test_truths_for_numbers_and_numbers_for_truths(self):
        self.no(SUM, member((1, 1, True)), member((True, True, True)), member((True, 1, 1)), member((0, 0, False)),
                member((False, False, False)), member((False, 0, 0)), note((1, 1)), note((0, 1)), note((True, True)),
                note((True, False)), ("member", False, ((True, 1, True),)), ("member", True, ((True, 1, True),)))

    def test_other_kinds_in_their_places(self):
        for wrong in (None, "1", [1], (1,), b"1", Agreeing()):
            self.no(SUM, member((wrong, 1, True)), member((True, wrong, True)), member((True, 1, wrong)),
                    note((wrong, 1)), note((True, wrong)))

    def test_parts_missing_and_too_many(self):
        self.no(SUM, (), ("member",), ("member", 0), ("member", ((True, 1, True),)),
                ("member", 0, ((True, 1, True),), 0), ("note",), ("note", 0, ((True, 1),)), ("note", ((True, 1),), 0),
                member(), member((True, 1, True), (True, 1, True)), note(), note((True, 1), (True, 1)),
                member((True, 1)), member((True, 1, True, True)), member(()), note((True,)), note((True, 1, True)))
        self.no(BOTH, member((True, 1, True)), note((True, 1)), member(*[(True, 1, True)] * 3), note(*[(True, 1)] * 3))

    def test_lists_and_other_words(self):
        self.no(SUM, ["member", 0, ((True, 1, True),)], ("member", 0, [(True, 1, True)]), member([True, 1, True]),
                ["note", ((True, 1),)], ("note", [(True, 1)]), note([True, 1]), ("Member", 0, ((True, 1, True),)),
                ("notes", ((True, 1),)), (b"note", ((True, 1),)), ("member", ((True, 1),)), ("note", 0, ((True, 1, True),)))

    def test_a_state_of_another_saying(self):
        great = ("sum", (9, 9), 20)
        self.yes(great, member((True, 21, True)), note((False, 42)))
        self.no(SUM, member((True, 21, True)), note((False, 42)))
        self.yes(SUM, member((True, -2, False)))
        self.no(REST, member((True, -2, False)))
        self.no(great, member((True, 2, True)))

    def test_nothing_is_changed(self):
        thing = ("member", 0, [[True, 1, [True]]])
        ahead = copy.deepcopy(thing)
        self.assertIs(is_state(SUM, thing), False)
        self.assertIs(is_state(SUM, thing), False)
        self.assertEqual(thing, ahead)


class FreshTest(unittest.TestCase):
    def test_of_sums(self):
        self.assertEqual(fresh(SUM, 0), member((True, 2, True)))
        self.assertEqual(fresh(SUM, 1), member((True, -3, False), sort=1))
        self.assertEqual(fresh(("sum", (0,), 0), 0), member((True, 0, True)))
        self.assertEqual(fresh(("sum", (-9,), -20), 0), member((True, -9, True)))

    def test_of_rests(self):
        self.assertEqual(fresh(REST, 0), member((True, 1, True)))
        self.assertEqual(fresh(REST, 1), member((True, 1, True), sort=1))
        self.assertEqual(fresh(("rest", (9,), 0, 9), 0), member((True, 0, True)))
        self.assertEqual(fresh(("rest", (-9,), 1, 2), 0), member((True, 1, True)))
        self.assertEqual(fresh(("rest", (-1,), 1, 9), 0), member((True, 8, False)))

    def test_of_each_sort_and_simple_one(self):
        saying = ("or", ("and", ("sum", (1, -2, 9, 0, -9, 4), -3), ("rest", (-5, 4, 9, 0, -9, 1), 2, 7)),
                  ("not", ("sum", (0, 3, -3, 6, 7, -8), 20)))
        for sort in range(6):
            state = fresh(saying, sort)
            self.assertIs(is_state(saying, state), True)
            self.assertEqual(state[:2], ("member", sort))
            for simple, (leads, number, word) in zip(simples(saying), state[2]):
                worth = simple[1][sort]
                self.assertEqual(number, worth % simple[3] if simple[0] == "rest" else worth)
                self.assertIs(leads, True)
                self.assertIs(word, says(simple, number))


class WordOfTest(unittest.TestCase):
    def test_by_the_words_alone(self):
        for word in (True, False):
            self.assertIs(word_of(SUM, member((False, 0, word))), word)
            self.assertIs(word_of(("not", SUM), member((False, 0, word))), not word)

    def test_of_several(self):
        for rest in (True, False):
            for total in (True, False):
                state = member((False, 0, rest), (False, 0, total), sort=1)
                self.assertIs(word_of(BOTH, state), total and not rest)
                self.assertIs(word_of(("or", SUM, REST), state), total or rest)

    def test_of_fresh_ones(self):
        self.assertIs(word_of(BOTH, fresh(BOTH, 0)), False)
        self.assertIs(word_of(("and", SUM, REST), fresh(BOTH, 0)), True)


if __name__ == "__main__":
    unittest.main()
