"""Rows of meetings that lead small crowds to the calm."""

from strangersay.calm import is_calm, is_changed
from strangersay.errors import NoMeeting
from strangersay.meetings import is_shift_by, meet_by
from strangersay.rounds import done, is_row
from strangersay.sayings import simples
from strangersay.states import is_note


def each_alone(crowd):
    """The states of all who are there, one by one."""
    states = []
    for state, many in crowd:
        states.extend([state] * many)
    return states


def is_moving(state):
    """Whether it can change others: a note that isn't thrown away, or a member who leads somewhere."""
    if state is None:
        return False
    return is_note(state) or any(hold[0] for hold in state[2])


def wanted_meeting(ones, states, hub, at, matters):
    """Whether these two are there, are not one, and their meeting matters."""
    if at == hub or states[at] is None or not is_moving(states[hub]):
        return False
    return matters(ones, states[hub], states[at])


def visit(ones, states, hub, matters, meetings):
    """Lets the hub meet all others once, where it matters; whether it did anywhere."""
    ahead = len(meetings)
    for at in range(len(states)):
        if wanted_meeting(ones, states, hub, at, matters):
            meetings.append((states[hub], states[at]))
            states[hub], states[at] = meet_by(ones, states[hub], states[at])
    return len(meetings) > ahead


def still(ones, states, matters, meetings):
    """Lets all meet till no meeting matters any more."""
    again = True
    while again:
        again = False
        for hub in range(len(states)):
            while visit(ones, states, hub, matters, meetings):
                again = True


def ending(saying, crowd):
    """A row that leads the crowd to a calm one."""
    if is_calm(saying, crowd):
        return ()
    ones = simples(saying)
    states = each_alone(crowd)
    meetings = []
    # Each shift makes the measure less, so they end; then who leads stays so, and the words only come right.
    still(ones, states, is_shift_by, meetings)
    still(ones, states, is_changed, meetings)
    return tuple((1, (pair,)) for pair in meetings)


def looks_ended(saying, crowd, row):
    """Whether it is a row that can be done and leads to a calm crowd; it may be anything."""
    if not is_row(saying, row):
        return False
    try:
        behind = done(saying, crowd, row)
    except NoMeeting:
        return False
    return is_calm(saying, behind)
