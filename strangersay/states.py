"""States: what members and notes bear."""

from strangersay.kinds import is_headed, is_tuple_of, is_whole_within
from strangersay.sayings import simples, sorts_of
from strangersay.sizes import left_by, says, size_of
from strangersay.truths import by_words


def is_borne(simple, number, scale):
    """Whether it is a number that can be borne; of a sum up to so many times its size."""
    size = size_of(simple)
    if simple[0] == "rest":
        return is_whole_within(number, 0, size)
    return is_whole_within(number, -scale * size, scale * size)


def is_member_hold(simple, thing):
    if not is_tuple_of(thing, 3):
        return False
    leads, number, word = thing
    if not isinstance(leads, bool) or not isinstance(word, bool) or not is_borne(simple, number, 1):
        return False
    return not leads or word == says(simple, number)


def is_note_hold(simple, thing):
    # Who goes leaves its number less its worth: each is up to the size, so both are up to twice.
    return is_tuple_of(thing, 2) and isinstance(thing[0], bool) and is_borne(simple, thing[1], 2)


def is_member_state(saying, thing):
    """Whether it is a member's state; it may be anything."""
    if not is_headed(thing, "member", 3) or not is_whole_within(thing[1], 0, sorts_of(saying) - 1):
        return False
    ones = simples(saying)
    if not is_tuple_of(thing[2], len(ones)):
        return False
    return all(is_member_hold(simple, hold) for simple, hold in zip(ones, thing[2]))


def is_note_state(saying, thing):
    """Whether it is a note's state; it may be anything."""
    if not is_headed(thing, "note", 2):
        return False
    ones = simples(saying)
    if not is_tuple_of(thing[1], len(ones)):
        return False
    return all(is_note_hold(simple, hold) for simple, hold in zip(ones, thing[1])) and not is_blank(thing[1])


def is_state(saying, thing):
    """Whether it is a member's or a note's state; it may be anything."""
    return is_member_state(saying, thing) or is_note_state(saying, thing)


def is_note(state):
    return state[0] == "note"


def is_blank(holds):
    """Whether a note with these holds would bear nothing."""
    return all(hold == (False, 0) for hold in holds)


def fresh(saying, sort):
    """The state of who just joined."""
    return ("member", sort, tuple(fresh_hold(simple, sort) for simple in simples(saying)))


def fresh_hold(simple, sort):
    number = left_by(simple, simple[1][sort])
    return (True, number, says(simple, number))


def word_of(saying, member):
    """What the member says of the whole saying."""
    return by_words(saying, tuple(hold[2] for hold in member[2]))
