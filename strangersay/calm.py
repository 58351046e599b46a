"""The calm: where no meeting changes anything any more."""

from strangersay.meetings import meet_by
from strangersay.sayings import simples


def is_changed(ones, one, other):
    """Whether the meeting changes one of them, be it a word alone."""
    return meet_by(ones, one, other) != (one, other)


def stirs(saying, crowd):
    """The rising tuple of the pairs of states that are there, can meet, and are changed by it."""
    ones = simples(saying)
    states = [state for state, many in crowd]
    # One who is alone in its state has nobody there to meet in it.
    return tuple((one, other) for one, many in crowd for other in states
                 if (one != other or many > 1) and is_changed(ones, one, other))


def is_calm(saying, crowd):
    """Whether no meeting changes anything."""
    return stirs(saying, crowd) == ()
