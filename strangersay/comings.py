"""Coming, going, and changing the sort; who goes or turns leaves a note."""

from strangersay.crowds import gathered
from strangersay.errors import NoOne
from strangersay.sayings import simples
from strangersay.sizes import left_by
from strangersay.states import fresh, is_blank


def put(manys, state, many):
    manys[state] = manys.get(state, 0) + many


def put_notes(manys, holds, many):
    # A note that bears nothing would be none.
    if not is_blank(holds):
        put(manys, ("note", holds), many)


def without(crowd, member, many):
    """How many are in each state when so many of that member's are gone; NoOne where there are fewer."""
    manys = {state: there for state, there in crowd}
    if manys.get(member, 0) < many:
        raise NoOne(member)
    manys[member] -= many
    return manys


def joined(saying, crowd, sort, *, many=1):
    """The crowd with so many fresh ones of the sort more."""
    manys = {state: there for state, there in crowd}
    put(manys, fresh(saying, sort), many)
    return gathered(manys)


def leaving_hold(simple, sort, hold):
    """What the note of who goes bears: all but its own worth, which goes with it."""
    return (hold[0], left_by(simple, hold[1] - simple[1][sort]))


def left(saying, crowd, member, *, many=1):
    """The crowd behind the going of so many who are in that state; NoOne(member) where there are fewer."""
    manys = without(crowd, member, many)
    holds = tuple(leaving_hold(simple, member[1], hold) for simple, hold in zip(simples(saying), member[2]))
    put_notes(manys, holds, many)
    return gathered(manys)


def turning_hold(simple, old, new):
    """What the note of who turns bears: by how much more it is worth now."""
    return (False, left_by(simple, simple[1][new] - simple[1][old]))


def turned(saying, crowd, member, sort, *, many=1):
    """The crowd where so many who are in that state are of the sort now; NoOne(member) where there are fewer."""
    manys = without(crowd, member, many)
    put(manys, ("member", sort, member[2]), many)
    put_notes(manys, tuple(turning_hold(simple, member[1], sort) for simple in simples(saying)), many)
    return gathered(manys)
