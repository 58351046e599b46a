"""What several tests ask about."""
import reprlib
import unittest

from strangersay.sizes import size_of
from strangersay.states import is_state

SUM = ("sum", (2, -3), 1)           # of size 3
REST = ("rest", (1, -2), 1, 3)      # of size 2
BOTH = ("and", SUM, ("not", REST))  # the rest rises ahead of the sum
EVEN = ("rest", (1,), 0, 2)
SOME = ("sum", (1,), 1)
# of sixty holds, and of one more
SIXTY = ("and", ("sum", (1, 0), 3), ("sum", (0, -1), -3))
SIXTY_ONE = ("and", ("sum", (0, -1), -3), ("sum", (1, -2), -1))


def member(*holds, sort=0):
    return ("member", sort, holds)


def note(*holds):
    return ("note", holds)


def all_states(simple):
    """Every state of a saying that is one simple one."""
    size = size_of(simple)
    own = range(0, size + 1) if simple[0] == "rest" else range(-size, size + 1)
    left = own if simple[0] == "rest" else range(-2 * size, 2 * size + 1)
    found = [member((leads, number, word), sort=sort) for sort in range(len(simple[1])) for leads in (False, True)
             for number in own for word in (False, True)]
    found += [note((leads, number)) for leads in (False, True) for number in left]
    return [state for state in found if is_state(simple, state)]


class AnswersTest(unittest.TestCase):
    """Tests of what is asked of anything: the answer is a truth."""

    def answers(self, truth, asked, *things):
        for thing in things:
            with self.subTest(reprlib.repr(thing)):
                self.assertIs(asked(thing), truth)


class Agreeing:
    """An object that says it equals anything."""

    def __eq__(self, other):
        return True

    __hash__ = None


def nested(core, wrap, deep):
    for _ in range(deep):
        core = wrap(core)
    return core


def odd_things():
    """Things of many kinds, none of which is a saying, counts, a state or a crowd of somebody."""
    return [
        None, True, False, 0, 1, -1, 10 ** 30 - 1, -(10 ** 30 - 1), "", "sum", "member", "note", b"", b"sum",
        [], {}, set(), frozenset(), {"sum": 1}, object(), Agreeing(), len, int, ValueError, ValueError("x"),
        range(3), iter(()), lambda thing: thing,
        (None,), ("sum",), ("rest",), ("not",), ("and",), ("or",), ("member",), ("note",),
        (Agreeing(), (1,), 0), (Agreeing(), Agreeing()), (Agreeing(), Agreeing(), Agreeing()),
        (["sum"], (1,), 0), ({}, {}), ([], [], []), (1, 2, "3"), ((), (), ()), (set(), set(), set()),
        nested((), lambda core: (core,), 29), nested([], lambda core: [core], 29),
        nested({}, lambda core: {"a": core}, 29),
        nested(("sum", (1,), 0), lambda core: ("not", core), 28),
        nested(("sum", (1,), 0), lambda core: ("and", core, core), 28),
        nested((), lambda core: ("member", core, core), 29),
        nested((), lambda core: ("note", core), 29),
    ]


def seen_of(house):
    """All that can be asked of a house."""
    return (house.crowd(), house.counts(), house.words(), house.is_true(), house.measure(), house.is_calm(),
            house.deeds(), house.spent(), house.trials())
