"""The measure: no meeting makes it greater, and each shift makes it less."""

from strangersay.sayings import simples
from strangersay.sizes import size_of
from strangersay.states import is_note


def lead_weight(simple):
    """What one more who leads weighs."""
    return 1 if simple[0] == "rest" else 1 + size_of(simple)


def number_weight(simple, number):
    if simple[0] == "rest":
        return 0 if number == 0 else 1
    return abs(number)


def member_weight(simple, hold):
    """What a member weighs besides its lead: who leads weighs nothing more."""
    return 0 if hold[0] else number_weight(simple, hold[1])


def note_weight(simple, hold):
    """What a note weighs besides its lead as one of all who lead."""
    return (1 if hold[0] else 0) + 2 * number_weight(simple, hold[1])


def measure_at(simple, at, crowd):
    """The measure of the simple saying with this number."""
    leading = 0
    weight = 0
    for state, many in crowd:
        # The holds stand last in a member and in a note.
        hold = state[-1][at]
        if hold[0]:
            leading += many
        weight += many * (note_weight(simple, hold) if is_note(state) else member_weight(simple, hold))
    return lead_weight(simple) * max(0, leading - 1) + weight


def measures(saying, crowd):
    """The measure of each simple one."""
    return tuple(measure_at(simple, at, crowd) for at, simple in enumerate(simples(saying)))


def measure(saying, crowd):
    """The measures of the simple ones together."""
    return sum(measures(saying, crowd))
