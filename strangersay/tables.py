"""Tables: rules of meetings spelt out for numbered states."""

from strangersay.kinds import is_headed, is_tuple_of, is_whole_within
from strangersay.rounds import manys_behind
from strangersay.sayings import MOST_SORTS

MOST_STATES = 60


def are_states(many, thing):
    """Whether it is a tuple of numbers of so many states."""
    return isinstance(thing, tuple) and all(is_whole_within(state, 0, many - 1) for state in thing)


def is_firsts(many, thing):
    return are_states(many, thing) and 1 <= len(thing) <= MOST_SORTS


def is_words(many, thing):
    return is_tuple_of(thing, many) and all(isinstance(word, bool) for word in thing)


def is_table_row(many, thing):
    """Whether it tells of a pair that is changed by meeting."""
    return is_tuple_of(thing, 4) and are_states(many, thing) and thing[:2] != thing[2:]


def is_table_rows(many, thing):
    if not isinstance(thing, tuple) or not all(is_table_row(many, row) for row in thing):
        return False
    # Where no pair stands twice, the rows rise just where their pairs do.
    return all(thing[at - 1][:2] < thing[at][:2] for at in range(1, len(thing)))


def is_table(thing):
    """Whether it is a table; it may be anything."""
    if not is_headed(thing, "table", 5) or not is_whole_within(thing[1], 1, MOST_STATES):
        return False
    many = thing[1]
    return is_firsts(many, thing[2]) and is_words(many, thing[3]) and is_table_rows(many, thing[4])


def first_crowd(table, counts):
    """So many in each sort's first state."""
    crowd = [0] * table[1]
    for first, many in zip(table[2], counts):
        crowd[first] += many
    return tuple(crowd)


def table_done(table, crowd, row):
    """The crowd behind the row; NoMeeting(at) where the part of that number can't be done."""
    told = {(p, q): (p2, q2) for p, q, p2, q2 in table[4]}
    manys = manys_behind(lambda one, other: told.get((one, other), (one, other)), list(enumerate(crowd)), row)
    return tuple(manys[state] for state in range(table[1]))


def table_stirs(table, crowd):
    """The rising tuple of the pairs that have a row and can meet."""
    return tuple((p, q) for p, q, p2, q2 in table[4] if can_meet(crowd, p, q))


def can_meet(crowd, one, other):
    if one == other:
        return crowd[one] > 1
    return crowd[one] > 0 and crowd[other] > 0
