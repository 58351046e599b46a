"""Whether a table says a saying, and where it first doesn't."""

from strangersay.ends import ends
from strangersay.sayings import sorts_of
from strangersay.tables import first_crowd
from strangersay.truths import is_true


def all_say(table, crowd, word):
    """Whether nobody is in a state of the other word."""
    return all(told == word for told, many in zip(table[3], crowd) if many > 0)


def says_at(table, saying, counts):
    """Whether all say in each end of the counts' first crowd whether the saying is so of them; TooMany."""
    word = is_true(saying, counts)
    rooms = ends(table, first_crowd(table, counts))
    return all(all_say(table, crowd, word) for room in rooms for crowd in room)


def counts_together(sorts, many):
    """All counts of so many members together, rising."""
    if sorts == 1:
        return [(many,)]
    return [(first, *others) for first in range(many + 1) for others in counts_together(sorts - 1, many - first)]


def least_wrong(table, saying, most):
    """The first counts of at most so many members at which the table doesn't say the saying, or None; TooMany."""
    for many in range(most + 1):
        for counts in counts_together(sorts_of(saying), many):
            if not says_at(table, saying, counts):
                return counts
    return None
