"""Short rows of meetings that lead great crowds to the calm."""

from strangersay.crowds import crowd_of
from strangersay.meetings import meet
from strangersay.rounds import done

# A rest's number comes round within nine meetings, as its divisor is at most 9.
MOST_MEETINGS = 10


def number_of(group):
    """The number of those who are in the group's state."""
    return group[0][2][0][1]


def leading(crowd):
    """The groups of those who lead."""
    return [(state, many) for state, many in crowd if state[2][0][0]]


def gathering(simple, lead, other, many):
    """A part in which one who leads meets as many of the others as one round can tell."""
    meetings = []
    state = lead
    while len(meetings) < min(many, MOST_MEETINGS):
        meetings.append((state, other))
        state = meet(simple, state, other)[0]
        if state == lead:
            # It is as it was ahead of the round, so the round can be done again.
            return (many // len(meetings), tuple(meetings))
    return (1, tuple(meetings))


def uniting(simple, groups):
    """A part after which fewer lead; groups are those who lead, two at least."""
    high = max(groups, key=number_of)
    low = min(groups, key=number_of)
    if number_of(low) < 0 < number_of(high):
        # Both together are nearer to 0 than the one of them farther from it, so soon all are on one side.
        return (min(high[1], low[1]), ((high[0], low[0]),))
    # On one side the one farthest from 0 only goes farther, till it is full and meets all others as it is.
    lead, many = max(groups, key=lambda group: abs(number_of(group)))
    if many > 1:
        return gathering(simple, lead, lead, many - 1)
    other, others = [group for group in groups if group[0] != lead][0]
    return gathering(simple, lead, other, others)


def telling(crowd):
    """The parts in which the one who leads tells its word to those who have the other one."""
    lead = leading(crowd)[0][0]
    return [(many, ((lead, state),)) for state, many in crowd if state[2][0][2] != lead[2][0][2]]


def settling(simple, counts):
    """A row of few parts and small rounds that leads the crowd of these counts to a calm one."""
    crowd = crowd_of(simple, counts)
    if crowd == ():
        return ()
    parts = []
    groups = leading(crowd)
    while sum(many for state, many in groups) > 1:
        part = uniting(simple, groups)
        parts.append(part)
        crowd = done(simple, crowd, (part,))
        groups = leading(crowd)
    return tuple(parts + telling(crowd))
