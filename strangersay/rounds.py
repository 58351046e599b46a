"""Rows of meetings, each round of them done ever so many times at once."""

from strangersay.crowds import gathered
from strangersay.errors import NoMeeting
from strangersay.meetings import is_shift, meet


def take_one(needs, gains, state):
    gains[state] = gains.get(state, 0) - 1
    needs[state] = max(needs.get(state, 0), -gains[state])


def round_effect(saying, meetings):
    """Of each state: how many a round wants there ahead of it, and how many more there are behind it."""
    needs = {}
    gains = {}
    for one, other in meetings:
        # Both are taken before any is put back, so that nobody meets itself.
        take_one(needs, gains, one)
        take_one(needs, gains, other)
        for state in meet(saying, one, other):
            if state is not None:
                gains[state] = gains.get(state, 0) + 1
    return needs, gains


def can_do(manys, times, needs, gains):
    """Whether the round can be done so many times."""
    # How many are in a state goes on evenly, so it is least ahead of the first time or of the last one.
    for state, need in needs.items():
        if manys.get(state, 0) + min(0, (times - 1) * gains[state]) < need:
            return False
    return True


def done(saying, crowd, row):
    """The crowd behind the row; NoMeeting(at) where the part of that number can't be done."""
    manys = {state: many for state, many in crowd}
    for at, (times, meetings) in enumerate(row):
        needs, gains = round_effect(saying, meetings)
        if not can_do(manys, times, needs, gains):
            raise NoMeeting(at)
        for state, gain in gains.items():
            manys[state] = manys.get(state, 0) + times * gain
    return gathered(manys)


def shifts(saying, row):
    """How many of the row's meetings are shifts."""
    return sum(times * shifts_in(saying, meetings) for times, meetings in row)


def shifts_in(saying, meetings):
    return sum(1 for one, other in meetings if is_shift(saying, one, other))
