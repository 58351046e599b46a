"""Meetings: how two are changed by one rule."""

from strangersay.sayings import simples
from strangersay.sizes import cut, says
from strangersay.states import is_blank, is_note


def members_met(simple, one, other):
    """The holds of two members behind their meeting."""
    if not one[0] and not other[0]:
        return one, other
    kept, over = cut(simple, one[1] + other[1])
    word = says(simple, kept)
    leading = (True, kept, word)
    following = (False, over, word)
    if one[0]:
        return leading, following
    return following, leading


def note_met(simple, hold, noted):
    """The holds of a member and of a note behind their meeting."""
    kept, over = cut(simple, hold[1] + noted[1])
    leads = hold[0] or noted[0]
    word = says(simple, kept) if leads else hold[2]
    return (leads, kept, word), (False, over)


def holds_met(ones, mine, yours):
    """The holds of two members behind their meeting, of each simple one."""
    pairs = [members_met(simple, one, other) for simple, one, other in zip(ones, mine, yours)]
    return tuple(pair[0] for pair in pairs), tuple(pair[1] for pair in pairs)


def meet_member(ones, one, other):
    mine, yours = holds_met(ones, one[2], other[2])
    return ("member", one[1], mine), ("member", other[1], yours)


def meet_note(ones, member, note):
    pairs = [note_met(simple, hold, noted) for simple, hold, noted in zip(ones, member[2], note[1])]
    first = ("member", member[1], tuple(pair[0] for pair in pairs))
    holds = tuple(pair[1] for pair in pairs)
    if is_blank(holds):
        return first, None
    return first, ("note", holds)


def meet_by(ones, one, other):
    """What meet tells, with the simple ones of the saying at hand."""
    if is_note(one) and is_note(other):
        return one, other
    if is_note(one):
        member, note = meet_note(ones, other, one)
        return note, member
    if is_note(other):
        return meet_note(ones, one, other)
    return meet_member(ones, one, other)


def meet(saying, one, other):
    """Both states behind the meeting, the one told first; None for a note thrown away."""
    return meet_by(simples(saying), one, other)


def is_shift_by(ones, one, other):
    """What is_shift tells, with the simple ones of the saying at hand."""
    first, second = meet_by(ones, one, other)
    return is_shifted(one, first) or is_shifted(other, second)


def is_shift(saying, one, other):
    """Whether the meeting changes a number or who leads."""
    return is_shift_by(simples(saying), one, other)


def is_shifted(ahead, behind):
    # A note thrown away led or had a number, or it would have been none.
    if behind is None:
        return True
    return borne(ahead) != borne(behind)


def borne(state):
    """Who leads and the numbers, without the words."""
    # The holds stand last in a member and in a note.
    return tuple(hold[:2] for hold in state[-1])
