import copy
import inspect
import random
import unittest

from strangersay import errors, houses
from strangersay.calm import is_calm
from strangersay.comings import joined, left, turned
from strangersay.crowds import counts_of, crowd_of, words_in
from strangersay.houses import MOST, House
from strangersay.measures import measure
from strangersay.rounds import done, shifts
from strangersay.states import fresh, is_state
from strangersay.truths import is_true
from tests.draws import house_step, members_in, some_meeting, some_saying
from tests.samples import BOTH, REST, SUM, Agreeing, member, nested, note, odd_things, seen_of

GREAT = 10 ** 30 - 1
UP, DOWN = fresh(SUM, 0), fresh(SUM, 1)     # worth 2, and worth -3
IDLE = member((False, 0, False))
NOTE = note((False, 4))
ROW = ((1, ((UP, DOWN),)),)


class HouseCase(unittest.TestCase):
    def house(self, up=0, down=0, saying=SUM, **more):
        house = House(saying, **more)
        for sort, many in enumerate((up, down)):
            if many:
                house.come(sort, many=many)
        return house

    def refused(self, house, error, deed, *things, **named):
        """It is refused so, nothing is changed; tells the refusal."""
        ahead = seen_of(house)
        with self.assertRaises(getattr(errors, error)) as caught:
            getattr(house, deed)(*things, **named)
        self.assertIs(type(caught.exception), getattr(errors, error))
        self.assertEqual(seen_of(house), ahead)
        return caught.exception

    def refused_with(self, value, house, error, deed, *things, **named):
        refusal = self.refused(house, error, deed, *things, **named)
        self.assertEqual(len(vars(refusal)), 1)
        self.assertIs(list(vars(refusal).values())[0], value)


class DeedsTest(HouseCase):
    def test_as_it_begins(self):
        house = House(SUM)
        self.assertEqual(seen_of(house), ((), (0, 0), (0, 0), False, 0, True, 0, 0, (0, 0)))
        self.assertIs(House(("sum", (1,), 0)).is_true(), True)
        self.assertIs(House(("rest", (1, 1), 0, 2)).is_true(), True)

    def test_come(self):
        house = House(SUM)
        self.assertEqual(house.come(0), ((UP, 1),))
        self.assertEqual(house.come(1, many=3), ((UP, 1), (DOWN, 3)))
        self.assertEqual(house.come(0, many=2), ((UP, 3), (DOWN, 3)))
        self.assertEqual(seen_of(house)[:2], (((UP, 3), (DOWN, 3)), (3, 3)))
        self.assertEqual(house.words(), (3, 3))
        self.assertIs(house.is_true(), False)
        self.assertEqual(house.measure(), 4 * 5)
        self.assertIs(house.is_calm(), False)
        self.assertEqual(house.deeds(), 3)

    def test_leave(self):
        house = self.house(3, 2)
        self.assertEqual(house.leave(UP), ((UP, 2), (DOWN, 2), (note((True, 0)), 1)))
        self.assertEqual(house.leave(UP, many=2), ((DOWN, 2), (note((True, 0)), 3)))
        self.assertEqual(house.counts(), (0, 2))
        self.assertEqual(house.deeds(), 4)

    def test_turn(self):
        house = self.house(3)
        self.assertEqual(house.turn(UP, 1), ((UP, 2), (member((True, 2, True), sort=1), 1), (note((False, -5)), 1)))
        self.assertEqual(house.turn(UP, 1, many=2), ((member((True, 2, True), sort=1), 3), (note((False, -5)), 3)))
        self.assertEqual(house.counts(), (0, 3))
        # of the same sort: nobody is changed, but it is a deed
        ahead = house.crowd()
        self.assertEqual(house.turn(member((True, 2, True), sort=1), 1, many=3), ahead)
        self.assertEqual(house.deeds(), 4)

    def test_meet(self):
        house = self.house(2, 2)
        met = (member((True, -1, False)), member((False, 0, False), sort=1))
        self.assertEqual(house.meet(UP, DOWN), tuple(sorted(((UP, 1), (DOWN, 1), (met[0], 1), (met[1], 1)))))
        house = self.house(2, 2)
        self.assertEqual(house.meet(UP, DOWN, times=2), tuple(sorted(((met[0], 2), (met[1], 2)))))
        self.assertEqual(house.deeds(), 3)

    def test_meet_of_a_note(self):
        house = self.house(1, 1)
        house.turn(UP, 1)
        turned_one = member((True, 2, True), sort=1)
        self.assertEqual(house.meet(note((False, -5)), turned_one), ((DOWN, 2),))

    def test_meet_of_two_notes(self):
        house = self.house(0, 4)
        house.leave(DOWN, many=2)
        ahead = house.crowd()
        self.assertEqual(house.meet(note((True, 0)), note((True, 0)), times=GREAT), ahead)
        self.assertEqual((house.deeds(), house.spent()), (3, 0))

    def test_meet_many_times_as_one_by_one(self):
        chance = random.Random(141)
        for _ in range(60):
            saying = some_saying(chance, sorts=2)
            at_once, singly = House(saying), House(saying)
            for house in (at_once, singly):
                house.come(0, many=12)
                house.come(1, many=12)
            one, other = fresh(saying, chance.randrange(2)), fresh(saying, chance.randrange(2))
            times = chance.randint(1, 12)
            try:
                at_once.meet(one, other, times=times)
            except errors.NoMeeting:
                at_once = None
            try:
                for _ in range(times):
                    singly.meet(one, other)
            except errors.NoMeeting:
                self.assertIsNone(at_once)
            else:
                self.assertEqual(seen_of(at_once)[:6], seen_of(singly)[:6])
                self.assertEqual(at_once.spent(), singly.spent())
                self.assertEqual((at_once.deeds(), singly.deeds()), (3, 2 + times))

    def test_meet_ever_so_many_times(self):
        house = House(SUM, most=2 * GREAT)
        house.come(0, many=GREAT)
        house.come(1, many=GREAT)
        house.meet(UP, DOWN, times=GREAT)
        self.assertEqual(house.counts(), (GREAT, GREAT))
        self.assertEqual(house.spent(), GREAT)
        self.assertEqual(house.words(), (0, 2 * GREAT))

    def test_do(self):
        house = self.house(2, 2)
        row = ((1, ((UP, DOWN), (UP, DOWN))), (1, ((member((True, -1, False)), member((True, -1, False))),)))
        behind = done(SUM, crowd_of(SUM, (2, 2)), row)
        self.assertEqual(house.do(row), behind)
        self.assertEqual((house.crowd(), house.deeds(), house.spent()), (behind, 3, 3))

    def test_do_nothing_is_a_deed(self):
        for house in (House(SUM), self.house(2, 2)):
            ahead = seen_of(house)
            self.assertEqual(house.do(()), ahead[0])
            self.assertEqual(house.deeds(), ahead[6] + 1)
            self.assertEqual(house.back(), ahead[0])
            self.assertEqual(seen_of(house), ahead)

    def test_each_deed_tells_the_crowd_behind_it(self):
        chance = random.Random(142)
        for _ in range(40):
            saying = some_saying(chance)
            house = House(saying)
            for _ in range(30):
                told = house_step(house, chance)
                self.assertEqual(told, house.crowd())
                self.as_the_functions_tell(saying, house)

    def as_the_functions_tell(self, saying, house):
        there = house.crowd()
        self.assertEqual(house.counts(), counts_of(saying, there))
        self.assertEqual(house.words(), words_in(saying, there))
        self.assertIs(house.is_true(), is_true(saying, house.counts()))
        self.assertEqual(house.measure(), measure(saying, there))
        self.assertIs(house.is_calm(), is_calm(saying, there))

    def test_deeds_as_the_functions_do_them(self):
        house = self.house(5, 5, saying=BOTH)
        there = house.crowd()
        one, other = fresh(BOTH, 0), fresh(BOTH, 1)
        self.assertEqual(there, crowd_of(BOTH, (5, 5)))
        self.assertEqual(house.come(1, many=4), joined(BOTH, there, 1, many=4))
        there = house.crowd()
        self.assertEqual(house.leave(one, many=3), left(BOTH, there, one, many=3))
        there = house.crowd()
        self.assertEqual(house.turn(other, 0, many=2), turned(BOTH, there, other, 0, many=2))
        there = house.crowd()
        row = ((2, ((one, other),)),)
        self.assertEqual(house.meet(one, other, times=2), done(BOTH, there, row))
        self.assertEqual(house.spent(), shifts(BOTH, row))


class BackTest(HouseCase):
    def test_nothing_to_take_back(self):
        house = House(SUM)
        self.refused(house, "NoBack", "back")
        house.come(0)
        self.assertEqual(house.back(), ())
        self.refused(house, "NoBack", "back")

    def test_each_deed(self):
        house = self.house(3, 3)
        for deed in (lambda: house.come(1, many=5), lambda: house.leave(UP), lambda: house.turn(DOWN, 0, many=2),
                     lambda: house.meet(UP, DOWN, times=3), lambda: house.do(ROW), lambda: house.do(())):
            ahead = seen_of(house)
            deed()
            self.assertEqual(house.deeds(), ahead[6] + 1)
            self.assertEqual(house.back(), ahead[0])
            self.assertEqual(seen_of(house), ahead)

    def test_through_all_to_nobody(self):
        chance = random.Random(143)
        for _ in range(30):
            house = House(some_saying(chance))
            stands = [seen_of(house)]
            for _ in range(25):
                if chance.random() < 0.2 and len(stands) > 1:
                    stands.pop()
                    self.assertEqual(house.back(), stands[-1][0])
                else:
                    house_step(house, chance)
                    stands.append(seen_of(house))
                self.assertEqual(house.deeds(), len(stands) - 1)
            while len(stands) > 1:
                self.assertEqual(seen_of(house), stands.pop())
                self.assertEqual(house.back(), stands[-1][0])
            self.assertEqual(seen_of(house), stands[0])
            self.refused(house, "NoBack", "back")

    def test_what_is_refused_is_no_deed(self):
        house = self.house(1)
        self.refused(house, "NoOne", "leave", DOWN)
        self.refused(house, "NoMeeting", "meet", UP, UP)
        self.assertEqual(house.back(), ())

    def test_on_from_what_was_taken_back(self):
        house = self.house(2, 1)
        house.meet(UP, DOWN)
        house.back()
        self.assertEqual(house.come(0), ((UP, 3), (DOWN, 1)))
        self.assertEqual(house.deeds(), 3)


class SpentTest(HouseCase):
    def test_over_each_deed(self):
        house = self.house(4, 4)
        self.assertEqual(house.spent(), 0)
        house.meet(UP, DOWN)
        self.assertEqual(house.spent(), 1)
        house.meet(UP, DOWN, times=2)
        self.assertEqual(house.spent(), 3)
        house.do(ROW)
        self.assertEqual(house.spent(), 4)
        house.do(())
        self.assertEqual(house.spent(), 4)
        house.come(0)
        self.assertEqual(house.spent(), 0)
        for deed in (lambda: house.come(1), lambda: house.leave(UP), lambda: house.turn(DOWN, 0)):
            house.come(0, many=2)
            house.come(1, many=2)
            house.meet(UP, DOWN)
            self.assertEqual(house.spent(), 1)
            deed()
            self.assertEqual(house.spent(), 0)
            house.back()
            self.assertEqual(house.spent(), 1)

    def test_meetings_that_are_no_shifts(self):
        house = self.house(2, 2)
        house.meet(UP, DOWN, times=2)
        two = member((True, -1, False))
        house.meet(two, two)
        self.assertEqual(house.spent(), 3)
        lead = member((True, -2, False))
        house.meet(lead, IDLE, times=7)
        house.meet(IDLE, member((False, 0, False), sort=1))
        self.assertEqual(house.spent(), 3)
        # a word alone is no shift
        house = self.house(3, 2)
        for row in (((1, ((UP, DOWN),)),), ((1, ((member((True, -1, False)), UP),)),)):
            house.do(row)
        self.assertEqual(house.spent(), 2)
        self.assertIn((member((False, 0, False), sort=1), 1), house.crowd())
        house.meet(member((True, 1, True)), member((False, 0, False), sort=1))
        self.assertEqual(house.spent(), 2)
        self.assertNotIn((member((False, 0, False), sort=1), 1), house.crowd())

    def test_back_over_meetings_and_comings(self):
        house = self.house(3, 3)
        house.meet(UP, DOWN)
        house.meet(UP, DOWN)
        house.back()
        self.assertEqual(house.spent(), 1)
        house.come(1)
        self.assertEqual(house.spent(), 0)
        house.meet(UP, DOWN)
        self.assertEqual(house.spent(), 1)
        house.back()
        house.back()
        # the last come that stands is the second one again
        self.assertEqual(house.spent(), 1)
        house.back()
        self.assertEqual(house.spent(), 0)

    def test_from_the_beginning(self):
        house = House(SUM)
        self.assertEqual(house.spent(), 0)
        house.do(())
        self.assertEqual((house.deeds(), house.spent()), (1, 0))

    def test_never_more_than_the_measure_then(self):
        chance = random.Random(144)
        for _ in range(40):
            saying = some_saying(chance, sorts=2)
            house = self.house(3, 3, saying=saying)
            for _ in range(3):
                house.leave(chance.choice(members_in(house.crowd())))
                house.come(chance.randrange(2))
                house.turn(chance.choice(members_in(house.crowd())), chance.randrange(2))
                then = house.measure()
                for _ in range(12):
                    house.meet(*some_meeting(house.crowd(), chance))
                    self.assertLessEqual(house.spent() + house.measure(), then)


class RefusalsTest(HouseCase):
    def wrong_sorts(self):
        return [thing for thing in odd_things() if isinstance(thing, bool) or thing not in (0, 1)] \
            + [2, -1, GREAT, -GREAT, "0", "a", (0,), [0]]

    def wrong_counts(self):
        return [thing for thing in odd_things() if isinstance(thing, bool) or not isinstance(thing, int) or thing < 1] \
            + [0, -1, -GREAT, True, False, "1", (1,), [1], None]

    def wrong_members(self):
        return odd_things() + [
            NOTE, list(UP), member((True, 2, False)), member((True, 4, True)), member((True, 2, True), sort=2),
            member((True, 2, True), (True, 2, True)), member(), member((1, 2, True)), member((True, 2, 1)),
            member((True, True, True)), member([True, 2, True]), ("member", 0, [(True, 2, True)]),
            ("member", True, ((True, 2, True),)), fresh(BOTH, 0), ("note", ((True, 2, True),)),
            nested(UP, lambda core: (core,), 20), nested(UP, lambda core: ("member", 0, core), 20)]

    def wrong_states(self):
        wrong = [thing for thing in self.wrong_members() if thing is not NOTE]
        return wrong + [note((False, 0)), note((True, 7)), note((False, 1), (False, 1)), note((True, 2, True))]

    def test_no_sort(self):
        house = self.house(2, 2)
        for thing in self.wrong_sorts():
            self.refused_with(thing, house, "NoSort", "come", thing)
            self.refused_with(thing, house, "NoSort", "turn", UP, thing)

    def test_no_state(self):
        house = self.house(2, 2)
        for thing in self.wrong_members():
            self.refused_with(thing, house, "NoState", "leave", thing)
            self.refused_with(thing, house, "NoState", "turn", thing, 1)
        for thing in self.wrong_states():
            self.assertIs(is_state(SUM, thing), False)
            self.refused_with(thing, house, "NoState", "meet", thing, UP)
            self.refused_with(thing, house, "NoState", "meet", UP, thing)

    def test_a_note_can_meet_but_not_leave_or_turn(self):
        house = self.house(2, 2)
        self.refused_with(NOTE, house, "NoState", "leave", NOTE)
        self.refused_with(NOTE, house, "NoState", "turn", NOTE, 1)
        self.assertEqual(self.refused(house, "NoMeeting", "meet", UP, NOTE).at, 0)

    def test_no_row(self):
        house = self.house(2, 2)
        pair = (UP, DOWN)
        rows = [thing for thing in odd_things()]
        rows += [[], [(1, (pair,))], ((1, [pair]),), ((1, ()),), ((0, (pair,)),), ((True, (pair,)),), ((1, (pair, ())),),
                 ((1, pair),), (1, (pair,)), ((-1, (pair,)),), ((1, ((UP, IDLE[:2]),)),), ((1, (pair,)), ()),
                 ((1, ((fresh(BOTH, 0), fresh(BOTH, 1)),)),), ((1, (pair,), 1),), ((1, ([UP, DOWN],)),),
                 ((1, ((UP, note((False, 0))),)),), ((1, (pair,)), (0, (pair,))), (("1", (pair,)),),
                 nested((1, (pair,)), lambda core: (core,), 20)]
        for thing in rows:
            self.refused(house, "NoRow", "do", thing)

    def test_no_count(self):
        house = self.house(2, 2)
        for thing in self.wrong_counts():
            self.refused_with(thing, house, "NoCount", "come", 0, many=thing)
            self.refused_with(thing, house, "NoCount", "leave", UP, many=thing)
            self.refused_with(thing, house, "NoCount", "turn", UP, 1, many=thing)
            self.refused_with(thing, house, "NoCount", "meet", UP, DOWN, times=thing)

    def test_full(self):
        for most in (1, 2, 5):
            house = House(SUM, most=most)
            house.come(0, many=most)
            self.refused(house, "Full", "come", 0)
            self.refused(house, "Full", "come", 1, many=GREAT)
            house.leave(UP)
            self.assertEqual(sum(house.counts()), most - 1)
            self.refused(house, "Full", "come", 1, many=2)
            house.come(1)
            self.refused(house, "Full", "come", 1)
        house = House(SUM, most=5)
        self.refused(house, "Full", "come", 0, many=6)
        house.come(0, many=5)
        # who turns was there before
        house.turn(UP, 1, many=5)
        self.refused(House(SUM, most=0), "Full", "come", 0)

    def test_most(self):
        self.assertEqual(MOST, 1000000)
        self.assertIs(type(MOST), int)
        house = House(SUM)
        self.refused(house, "Full", "come", 0, many=MOST + 1)
        self.assertEqual(house.come(0, many=MOST), ((UP, MOST),))
        self.refused(house, "Full", "come", 1)
        house = House(SUM, most=GREAT)
        house.come(0, many=GREAT)
        self.refused(house, "Full", "come", 0)

    def test_notes_are_no_members(self):
        house = House(SUM, most=2)
        for _ in range(4):
            house.come(0, many=2)
            house.leave(UP, many=2)
        self.assertEqual(house.crowd(), ((note((True, 0)), 8),))
        house.come(1, many=2)
        self.refused(house, "Full", "come", 1)

    def test_no_one(self):
        house = self.house(2, 1)
        for state, many in ((UP, 3), (DOWN, 2), (IDLE, 1), (UP, GREAT)):
            self.refused_with(state, house, "NoOne", "leave", state, many=many)
            self.refused_with(state, house, "NoOne", "turn", state, 1, many=many)
        self.refused_with(UP, House(SUM), "NoOne", "leave", UP)
        house.leave(UP, many=2)
        self.refused_with(UP, house, "NoOne", "leave", UP)

    def test_no_meeting(self):
        house = self.house(2, 1)
        for one, other, times in ((UP, DOWN, 2), (DOWN, DOWN, 1), (IDLE, UP, 1), (UP, IDLE, 1), (UP, UP, 2),
                                  (NOTE, NOTE, 1), (UP, DOWN, GREAT)):
            self.assertEqual(self.refused(house, "NoMeeting", "meet", one, other, times=times).at, 0)
        self.assertEqual(self.refused(self.house(1), "NoMeeting", "meet", UP, UP).at, 0)
        part = (1, ((UP, DOWN),))
        for row, at in (((part, part), 1), (((2, part[1]),), 0), ((part, (1, ((member((True, -1, False)), UP),)), part), 2),
                        (((1, ((UP, UP),)), part), 1)):
            self.assertEqual(self.refused(house, "NoMeeting", "do", row).at, at)

    def test_a_row_done_in_part_changes_nothing(self):
        house = self.house(2, 2)
        self.assertEqual(self.refused(house, "NoMeeting", "do", (*ROW, *ROW, *ROW)).at, 2)
        self.assertEqual(house.spent(), 0)

    def test_the_order_of_refusals(self):
        house = House(SUM, most=4)
        house.come(0, many=2)
        house.come(1, many=2)
        self.refused_with("s", house, "NoSort", "come", "s", many=0)
        self.refused_with("s", house, "NoSort", "come", "s", many=GREAT)
        self.refused_with("s", house, "NoSort", "turn", "m", "s", many=0)
        self.refused_with(2, house, "NoSort", "turn", NOTE, 2, many="x")
        self.refused_with("m", house, "NoState", "turn", "m", 1, many=0)
        self.refused_with("m", house, "NoState", "leave", "m", many=0)
        self.refused_with(NOTE, house, "NoState", "leave", NOTE, many=None)
        self.refused_with("m", house, "NoState", "meet", "m", "n", times=0)
        self.refused_with("n", house, "NoState", "meet", UP, "n", times=0)
        self.refused_with("n", house, "NoState", "meet", IDLE, "n", times=0)
        self.refused_with(0, house, "NoCount", "come", 0, many=0)
        self.refused_with(True, house, "NoCount", "come", 1, many=True)
        self.refused_with(0, house, "NoCount", "leave", IDLE, many=0)
        self.refused_with(-1, house, "NoCount", "turn", IDLE, 0, many=-1)
        self.refused_with(False, house, "NoCount", "meet", IDLE, IDLE, times=False)

    def test_objects_that_agree_with_all(self):
        house = self.house(2, 2)
        thing = Agreeing()
        self.refused_with(thing, house, "NoSort", "come", thing)
        self.refused_with(thing, house, "NoState", "leave", thing)
        self.refused_with(thing, house, "NoCount", "come", 0, many=thing)
        self.refused(house, "NoRow", "do", thing)

    def test_nothing_handed_in_is_changed(self):
        house = self.house(2, 2)
        things = ([UP], [[1, [[UP, DOWN]]]], {"many": 1})
        ahead = copy.deepcopy(things)
        self.refused(house, "NoState", "leave", things[0])
        self.refused(house, "NoRow", "do", things[1])
        self.refused(house, "NoCount", "come", 0, many=things[2])
        self.assertEqual(things, ahead)


class HousesTest(HouseCase):
    def test_two_beside_one_another(self):
        first, second = self.house(2, 1), self.house(1, 3, saying=REST, most=9)
        ahead = seen_of(second)
        first.come(0)
        first.meet(UP, DOWN)
        first.trial((), lambda house: house.come(1))
        self.assertEqual(seen_of(second), ahead)
        ahead = seen_of(first)
        second.come(1)
        second.back()
        second.back()
        second.back()
        self.refused(second, "NoBack", "back")
        self.assertEqual(seen_of(first), ahead)
        self.assertEqual(first.trials(), (1, 1))
        self.assertEqual(second.trials(), (0, 0))

    def test_asking_changes_nothing(self):
        house = self.house(2, 3)
        self.assertEqual(seen_of(house), seen_of(house))

    def test_the_names_and_arguments(self):
        named = {"come": ("many",), "leave": ("many",), "turn": ("many",), "meet": ("times",), "__init__": ("most",)}
        placed = {"come": 1, "leave": 1, "turn": 2, "meet": 2, "do": 1, "back": 0, "crowd": 0, "counts": 0, "words": 0,
                  "is_true": 0, "measure": 0, "is_calm": 0, "deeds": 0, "spent": 0, "trial": 2, "trials": 0,
                  "__init__": 1}
        for name, many in placed.items():
            self.assertIn(name, vars(House))
            parts = list(inspect.signature(vars(House)[name]).parameters.values())[1:]
            behind = tuple(part.name for part in parts if part.kind == part.KEYWORD_ONLY)
            self.assertEqual((len(parts) - len(behind), behind), (many, named.get(name, ())))
        self.assertRaises(TypeError, House, SUM, 5)
        self.assertRaises(TypeError, House(SUM).come, 0, 2)
        self.assertEqual(houses.MOST, MOST)

    def test_a_house_of_several_simple_ones(self):
        house = self.house(2, 1, saying=BOTH)
        self.assertEqual(house.counts(), (2, 1))
        self.assertIs(house.is_true(), is_true(BOTH, (2, 1)))
        self.assertEqual(house.measure(), measure(BOTH, house.crowd()))


if __name__ == "__main__":
    unittest.main()
