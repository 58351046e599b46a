"""What the numbers of a crowd are together, and whether they are what they should be."""

from strangersay.crowds import counts_of
from strangersay.sayings import simples
from strangersay.sizes import left_by
from strangersay.truths import total


def sum_at(simple, at, crowd):
    """The numbers of all members and notes together, of the simple saying with this number."""
    # The holds stand last in a member and in a note.
    return left_by(simple, sum(many * state[-1][at][1] for state, many in crowd))


def sums(saying, crowd):
    """Of each simple one the numbers of all members and notes together."""
    return tuple(sum_at(simple, at, crowd) for at, simple in enumerate(simples(saying)))


def is_led(at, crowd):
    """Whether a member or a note leads in the simple saying with this number."""
    return any(state[-1][at][0] for state, many in crowd)


def is_sound(saying, crowd):
    """Whether the numbers are what those who are there are worth, and somebody leads where a member is."""
    ones = simples(saying)
    counts = counts_of(saying, crowd)
    if sums(saying, crowd) != tuple(left_by(simple, total(simple, counts)) for simple in ones):
        return False
    return sum(counts) == 0 or all(is_led(at, crowd) for at in range(len(ones)))
