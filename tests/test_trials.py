import copy
import random
import unittest

from strangersay.errors import Full, NoBack, NoCount, NoDeed, NoMeeting, NoOne, NoRow, NoSort, NoState
from strangersay.houses import House
from strangersay.states import fresh
from tests.draws import house_step, some_saying
from tests.samples import SUM, Agreeing, member, nested, note, odd_things, seen_of

GREAT = 10 ** 30 - 1
UP, DOWN = fresh(SUM, 0), fresh(SUM, 1)
ROW = ((1, ((UP, DOWN),)),)


class OwnError(Exception):
    pass


class TrialCase(unittest.TestCase):
    # what three times back tells of the house as it is ahead
    stood = [((UP, 3), (DOWN, 2)), ((UP, 3),), ()]

    def setUp(self):
        self.house = House(SUM, most=10)
        self.house.come(0, many=3)
        self.house.come(1, many=2)
        self.house.meet(UP, DOWN)

    def trial(self, deeds, ask, more=1):
        """What the trial tells; behind it all but trials() is as ahead."""
        ahead = seen_of(self.house)
        try:
            return self.house.trial(deeds, ask)
        finally:
            begun, ended = ahead[-1]
            self.assertEqual(seen_of(self.house), (*ahead[:-1], (begun + more, ended + more)))
            # and what stood can be taken back as ahead
            self.assertEqual(self.backs(), self.stood)

    def backs(self):
        other = copy.deepcopy(self.house)
        told = []
        while other.deeds():
            told.append(other.back())
        return told


class DeedsTest(TrialCase):
    def test_no_deeds(self):
        self.assertEqual(self.trial((), seen_of), (*seen_of(self.house)[:-1], (1, 0)))
        self.assertEqual(self.trial((), lambda house: "told"), "told")
        self.assertIsNone(self.trial((), lambda house: None))

    def test_ask_is_called_with_this_house_once(self):
        called = []
        self.trial((("come", 0, 1),), called.append)
        self.assertEqual(len(called), 1)
        self.assertIs(called[0], self.house)

    def test_each_form(self):
        there = self.house.crowd()
        self.house.come(1, many=4)
        came = self.house.crowd()
        self.house.back()
        self.assertEqual(self.trial((("come", 1, 4),), House.crowd), came)
        self.house.leave(UP, many=2)
        went = self.house.crowd()
        self.house.back()
        self.assertEqual(self.trial((("leave", UP, 2),), House.crowd), went)
        self.house.turn(UP, 1, many=2)
        turned = self.house.crowd()
        self.house.back()
        self.assertEqual(self.trial((("turn", UP, 1, 2),), House.crowd), turned)
        self.house.do(ROW)
        did = self.house.crowd()
        self.house.back()
        self.assertEqual(self.trial((("do", ROW),), House.crowd), did)
        self.assertEqual(self.trial((("do", ()),), House.crowd), there)
        self.assertEqual(self.house.trials(), (5, 5))

    def test_several_one_by_one(self):
        deeds = (("come", 0, 2), ("leave", DOWN, 1), ("do", ()), ("turn", UP, 1, 4), ("come", 0, 1))
        other = House(SUM, most=10)
        other.come(0, many=3)
        other.come(1, many=2)
        other.meet(UP, DOWN)
        other.come(0, many=2)
        other.leave(DOWN)
        other.do(())
        other.turn(UP, 1, many=4)
        other.come(0)
        self.assertEqual(self.trial(deeds, seen_of)[:-1], seen_of(other)[:-1])

    def test_spent_and_deeds_within(self):
        self.assertEqual(self.trial((("do", ROW),), lambda house: (house.spent(), house.deeds())), (2, 5 - 1))
        self.assertEqual(self.trial((("come", 0, 1), ("do", ROW)), lambda house: (house.spent(), house.deeds())), (1, 5))
        self.assertEqual(self.house.spent(), 1)

    def test_deeds_stay_as_handed_in(self):
        deeds = (("come", 0, 2), ("do", ROW))
        ahead = copy.deepcopy(deeds)
        self.trial(deeds, seen_of)
        self.trial(deeds, seen_of)
        self.assertEqual(deeds, ahead)


class RefusedDeedsTest(TrialCase):
    def refused(self, error, value, deeds):
        asked = []
        with self.assertRaises(error) as caught:
            self.trial(deeds, asked.append)
        self.assertEqual(asked, [])
        if value is not None:
            self.assertEqual(list(vars(caught.exception).values()), [value])

    def test_by_the_house(self):
        for error, value, deed in (
                (NoSort, 2, ("come", 2, 1)), (NoSort, True, ("come", True, 0)), (NoCount, 0, ("come", 0, 0)),
                (Full, None, ("come", 0, 6)), (NoState, "m", ("leave", "m", 0)), (NoCount, "x", ("leave", UP, "x")),
                (NoOne, UP, ("leave", UP, 3)), (NoSort, "s", ("turn", "m", "s", 0)), (NoState, "m", ("turn", "m", 1, 0)),
                (NoCount, False, ("turn", UP, 1, False)), (NoOne, DOWN, ("turn", DOWN, 0, 2)), (NoRow, None, ("do", [])),
                (NoRow, None, ("do", 1)), (NoMeeting, 1, ("do", ROW * 2)), (NoMeeting, 0, ("do", ((2, ROW[0][1]),)))):
            self.refused(error, value, (deed,))
            self.refused(error, value, (("do", ()), deed, ("come", 0, 1)))

    def test_behind_deeds_that_were_done(self):
        self.refused(NoOne, DOWN, (("come", 0, 1), ("leave", DOWN, 1), ("leave", DOWN, 1), ("come", "x", "y")))
        self.refused(Full, None, (("come", 0, 5), ("come", 0, 1)))
        self.assertEqual(self.trial((("come", 0, 5),), House.counts), (8, 2))

    def test_parts_may_be_anything(self):
        for thing in odd_things():
            if isinstance(thing, bool) or not isinstance(thing, int):
                self.assertRaises(NoSort, self.trial, (("come", thing, 1),), seen_of)
                self.assertRaises(NoCount, self.trial, (("come", 0, thing),), seen_of)
            self.assertRaises(NoState, self.trial, (("leave", thing, 1),), seen_of)
            self.assertRaises(NoRow, self.trial, (("do", thing),), seen_of)


class NoDeedTest(TrialCase):
    def formless(self, at, deeds):
        """It is refused ahead of all; the trial isn't counted."""
        asked = []
        with self.assertRaises(NoDeed) as caught:
            self.trial(deeds, asked.append, more=0)
        self.assertEqual(caught.exception.at, at)
        self.assertIs(type(caught.exception.at), int)
        self.assertEqual(asked, [])

    def test_no_tuple(self):
        for thing in odd_things():
            if not isinstance(thing, tuple):
                self.formless(0, thing)
        self.formless(0, [("come", 0, 1)])
        self.formless(0, [])

    def test_the_first_without_form(self):
        good = (("come", 0, 1), ("leave", UP, 1), ("turn", UP, 1, 1), ("do", ROW))
        for bad in (*odd_things(), ("come", 0), ("come", 0, 1, 1), ("leave", UP), ("leave", UP, 1, 1), ("turn", UP, 1),
                    ("turn", UP, 1, 1, 1), ("do",), ("do", ROW, 1), ("meet", UP, DOWN, 1), ("meet", UP, DOWN), ("back",),
                    ("comes", 0, 1), ("Come", 0, 1), (b"come", 0, 1), ["come", 0, 1], ("trial", (), None), (),
                    (Agreeing(), 0, 1), nested(("come", 0, 1), lambda core: (core,), 10)):
            for at in range(5):
                self.formless(at, (*good[:at], bad, *good[at:]))
            self.formless(1, (good[0], bad, bad, good[1]))

    def test_ahead_of_wrong_parts_and_of_a_wrong_ask(self):
        self.formless(2, (("come", "x", 0), ("do", None), "no deed"))
        with self.assertRaises(NoDeed):
            self.house.trial(("no deed",), None)
        self.assertEqual(self.house.trials(), (0, 0))

    def test_deeds_alone_are_no_tuple_of_deeds(self):
        self.formless(0, ("come", 0, 1))
        self.formless(0, ("do", ROW))


class AskTest(TrialCase):
    def test_an_ask_that_does_deeds(self):
        def ask(house):
            house.come(0)
            house.leave(DOWN)
            house.turn(UP, 1)
            house.do(())
            return house.meet(UP, UP)
        self.assertIn((note((True, 0)), 1), self.trial((("come", 0, 2),), ask))

    def test_an_ask_that_takes_back(self):
        def ask(house):
            told = []
            while house.deeds():
                told.append(house.back())
            return told
        self.assertEqual(self.trial((), ask), self.stood)
        self.assertEqual(self.trial((("come", 0, 1),), lambda house: ask(house)[1:]), self.stood)
        # below where it began, and on from there
        self.assertEqual(self.trial((), lambda house: (ask(house), house.come(1))[1]), ((DOWN, 1),))

    def test_an_ask_that_makes_trials(self):
        def ask(house):
            seen = [house.trials()]
            first = house.trial((("come", 0, 1),), House.counts)
            seen.append(house.trials())
            second = house.trial((("leave", UP, 1),), lambda again: again.trial((("come", 1, 2),), House.counts))
            return first, second, house.counts(), seen + [house.trials()]
        self.assertEqual(self.trial((("come", 0, 1),), ask, more=4),
                         ((5, 2), (3, 4), (4, 2), [(1, 0), (2, 1), (4, 3)]))

    def test_trials_within_trials(self):
        def ask(house):
            begun, ended = house.trials()
            self.assertEqual(ended, 0)
            if begun == 30:
                return house.counts()
            return house.trial((("do", ()),), ask)
        self.assertEqual(self.trial((), ask, more=30), (3, 2))

    def test_an_ask_that_is_refused(self):
        for error, asked in ((NoOne, lambda house: house.leave(UP, many=9)), (NoSort, lambda house: house.come(2)),
                             (NoMeeting, lambda house: house.meet(UP, DOWN, times=9)),
                             (Full, lambda house: house.come(0, many=9)), (NoRow, lambda house: house.do([])),
                             (NoState, lambda house: house.leave(None)),
                             (NoCount, lambda house: house.come(0, many=0))):
            self.assertRaises(error, self.trial, (("come", 0, 1),), asked)
        self.assertRaises(NoBack, self.trial, (), lambda house: [house.back() for _ in range(4)])
        with self.assertRaises(NoDeed) as caught:
            self.trial((), lambda house: house.trial((("do", ()), "x"), seen_of))
        self.assertEqual(caught.exception.at, 1)

    def test_an_ask_that_goes_on_behind_a_refusal(self):
        def ask(house):
            house.come(0)
            try:
                house.leave(member((False, 0, False)))
            except NoOne:
                return house.counts()
        self.assertEqual(self.trial((), ask), (4, 2))

    def test_an_ask_that_ends_by_an_error_of_its_own(self):
        def ask(house):
            house.come(0)
            house.back()
            house.back()
            raise OwnError("so it is")
        with self.assertRaises(OwnError) as caught:
            self.trial((("come", 0, 2), ("do", ROW)), ask)
        self.assertEqual(str(caught.exception), "so it is")
        for error in (KeyError, ZeroDivisionError, RuntimeError, KeyboardInterrupt):
            def wrong(house, error=error):
                house.come(1)
                raise error
            self.assertRaises(error, self.trial, (), wrong)

    def test_an_error_of_a_trial_within(self):
        def inner(house):
            house.back()
            raise OwnError

        def ask(house):
            ahead = seen_of(house)[:-1]
            self.assertRaises(OwnError, house.trial, (("come", 0, 1),), inner)
            self.assertEqual(seen_of(house)[:-1], ahead)
            house.trial((), inner)
        self.assertRaises(OwnError, self.trial, (("come", 1, 1),), ask, more=3)

    def test_trials_behind(self):
        self.assertEqual(self.house.trials(), (0, 0))
        for many in range(1, 5):
            self.assertEqual(self.trial((), House.trials), (many, many - 1))
            self.assertEqual(self.house.trials(), (many, many))
        self.assertRaises(OwnError, self.trial, (), self.wrong)
        self.assertRaises(NoSort, self.trial, (("come", 9, 9),), seen_of)
        self.assertRaises(NoDeed, self.trial, (1,), seen_of, more=0)
        self.assertEqual(self.house.trials(), (6, 6))

    def wrong(self, house):
        raise OwnError

    def test_trials_are_not_taken_back(self):
        self.trial((), seen_of)
        self.house.back()
        self.assertEqual(self.house.trials(), (1, 1))

    def test_on_behind_a_trial(self):
        self.trial((("come", 0, 3),), lambda house: house.come(1))
        self.house.come(0)
        self.assertEqual(self.house.counts(), (4, 2))
        self.house.back()
        self.house.back()
        self.assertEqual(self.house.crowd(), ((UP, 3), (DOWN, 2)))

    def test_drawn(self):
        chance = random.Random(151)
        for _ in range(40):
            house = House(some_saying(chance))
            for _ in range(15):
                house_step(house, chance)
                ahead = seen_of(house)

                def ask(this):
                    told = [house_step(this, chance) for _ in range(chance.randint(0, 4))]
                    for _ in range(chance.randint(0, this.deeds())):
                        this.back()
                    if chance.random() < 0.3:
                        raise OwnError
                    return told
                try:
                    house.trial((("come", 0, chance.randint(1, 3)),), ask)
                except OwnError:
                    pass
                self.assertEqual(seen_of(house)[:-1], ahead[:-1])


if __name__ == "__main__":
    unittest.main()
