"""Rows of meetings, each round of them done ever so many times at once."""

from strangersay.crowds import gathered
from strangersay.errors import NoMeeting
from strangersay.kinds import is_tuple_of, is_whole_from
from strangersay.meetings import is_shift_by, meet_by
from strangersay.sayings import simples
from strangersay.states import is_state


def is_meeting(saying, thing):
    return is_tuple_of(thing, 2) and all(is_state(saying, state) for state in thing)


def is_part(saying, thing):
    """Whether it is a round and how many times it shall be done."""
    if not is_tuple_of(thing, 2) or not is_whole_from(thing[0], 1):
        return False
    meetings = thing[1]
    if not isinstance(meetings, tuple) or len(meetings) == 0:
        return False
    return all(is_meeting(saying, pair) for pair in meetings)


def is_row(saying, thing):
    """Whether it is a row of meetings of the saying's states; it may be anything."""
    return isinstance(thing, tuple) and all(is_part(saying, part) for part in thing)


def take_one(needs, gains, state):
    gains[state] = gains.get(state, 0) - 1
    needs[state] = max(needs.get(state, 0), -gains[state])


def round_effect(met, meetings):
    """Of each state: how many a round wants there ahead of it, and how many more there are behind it."""
    needs = {}
    gains = {}
    for one, other in meetings:
        # Both are taken before any is put back, so that nobody meets itself.
        take_one(needs, gains, one)
        take_one(needs, gains, other)
        for state in met(one, other):
            if state is not None:
                gains[state] = gains.get(state, 0) + 1
    return needs, gains


def can_do(manys, times, needs, gains):
    """Whether the round can be done so many times."""
    # How many are in a state goes on evenly, so it is least ahead of the first time or of the last one.
    for state, need in needs.items():
        if manys.get(state, 0) + min(0, (times - 1) * gains[state]) < need:
            return False
    return True


def manys_behind(met, groups, row):
    """How many are in each state behind the row, by a function that tells both behind a meeting; NoMeeting(at)."""
    manys = {state: many for state, many in groups}
    for at, (times, meetings) in enumerate(row):
        needs, gains = round_effect(met, meetings)
        if not can_do(manys, times, needs, gains):
            raise NoMeeting(at)
        for state, gain in gains.items():
            manys[state] = manys.get(state, 0) + times * gain
    return manys


def done(saying, crowd, row):
    """The crowd behind the row; NoMeeting(at) where the part of that number can't be done."""
    ones = simples(saying)
    return gathered(manys_behind(lambda one, other: meet_by(ones, one, other), crowd, row))


def shifts(saying, row):
    """How many of the row's meetings are shifts."""
    ones = simples(saying)
    return sum(times * shifts_in(ones, meetings) for times, meetings in row)


def shifts_in(ones, meetings):
    return sum(1 for one, other in meetings if is_shift_by(ones, one, other))
