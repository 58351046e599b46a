"""Sayings: simple ones, and those joined of them by not, and, or."""

from strangersay.kinds import is_headed, is_whole_within

MOST_SORTS = 6
MOST_WORTH = 9
MOST_BOUND = 20
LEAST_DIVISOR = 2
MOST_DIVISOR = 9
MOST_DEEP = 8
MOST_SIMPLE = 6


def is_worths(thing):
    if not isinstance(thing, tuple) or not 1 <= len(thing) <= MOST_SORTS:
        return False
    return all(is_whole_within(worth, -MOST_WORTH, MOST_WORTH) for worth in thing)


def is_sum(thing):
    if not is_headed(thing, "sum", 3):
        return False
    return is_worths(thing[1]) and is_whole_within(thing[2], -MOST_BOUND, MOST_BOUND)


def is_rest(thing):
    if not is_headed(thing, "rest", 4) or not is_worths(thing[1]):
        return False
    if not is_whole_within(thing[3], LEAST_DIVISOR, MOST_DIVISOR):
        return False
    return is_whole_within(thing[2], 0, thing[3] - 1)


def is_simple(thing):
    return is_sum(thing) or is_rest(thing)


def is_joined(thing):
    """Whether it has the form of a joined saying, whatever its parts are."""
    return is_headed(thing, "not", 2) or is_headed(thing, "and", 3) or is_headed(thing, "or", 3)


def is_built(thing, deep):
    """Whether it is built of simple sayings, at most so many within one another."""
    # Asked from the outside in: what shares its parts could have too many to visit.
    if deep == 0:
        return False
    if is_simple(thing):
        return True
    return is_joined(thing) and all(is_built(part, deep - 1) for part in thing[1:])


def all_simples(saying):
    """The simple sayings in it as a list, each as often as it stands there."""
    if not is_joined(saying):
        return [saying]
    found = []
    for part in saying[1:]:
        found.extend(all_simples(part))
    return found


def is_saying(thing):
    """Whether it is a saying; it may be anything."""
    if not is_built(thing, MOST_DEEP):
        return False
    found = all_simples(thing)
    return len(set(found)) <= MOST_SIMPLE and len({len(simple[1]) for simple in found}) == 1


def sorts_of(saying):
    """How many sorts the saying speaks of."""
    while is_joined(saying):
        saying = saying[1]
    return len(saying[1])


def simples(saying):
    """The unlike simple sayings in it, rising."""
    return tuple(sorted(set(all_simples(saying))))
