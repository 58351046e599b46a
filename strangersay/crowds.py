"""Crowds: how many are in which state."""

from strangersay.kinds import is_tuple_of, is_whole_from
from strangersay.sayings import sorts_of
from strangersay.states import fresh, is_note, is_state, word_of


def is_group(saying, thing):
    """Whether it is a state and how many are in it."""
    return is_tuple_of(thing, 2) and is_state(saying, thing[0]) and is_whole_from(thing[1], 1)


def is_crowd(saying, thing):
    """Whether it is a crowd; it may be anything."""
    if not isinstance(thing, tuple) or not all(is_group(saying, part) for part in thing):
        return False
    return all(thing[at - 1][0] < thing[at][0] for at in range(1, len(thing)))


def gathered(manys):
    """The crowd of a dict that tells how many are in each state; 0 is let there."""
    return tuple(sorted((state, many) for state, many in manys.items() if many > 0))


def crowd_of(saying, counts):
    """The crowd of so many fresh members of each sort."""
    return gathered({fresh(saying, sort): many for sort, many in enumerate(counts)})


def counts_of(saying, crowd):
    """How many members of each sort are there."""
    counts = [0] * sorts_of(saying)
    for state, many in crowd:
        if not is_note(state):
            counts[state[1]] += many
    return tuple(counts)


def notes_in(crowd):
    """How many notes are there."""
    return sum(many for state, many in crowd if is_note(state))


def words_in(saying, crowd):
    """How many members say yes, and how many no."""
    members = [(state, many) for state, many in crowd if not is_note(state)]
    yes = sum(many for state, many in members if word_of(saying, state))
    return yes, sum(many for state, many in members) - yes
