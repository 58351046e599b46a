"""What a saying tells of counts, and of the words of its simple ones."""

from strangersay.kinds import is_tuple_of, is_whole_from
from strangersay.sayings import simples, sorts_of
from strangersay.sizes import left_by, says


def is_counts(saying, thing):
    """Whether these are counts for the saying's sorts; it may be anything."""
    return is_tuple_of(thing, sorts_of(saying)) and all(is_whole_from(many, 0) for many in thing)


def total(simple, counts):
    """What the counts are worth together."""
    return sum(worth * many for worth, many in zip(simple[1], counts))


def is_true(saying, counts):
    """Whether the saying is so of these counts."""
    words = [says(simple, left_by(simple, total(simple, counts))) for simple in simples(saying)]
    return by_words(saying, tuple(words))


def by_words(saying, words):
    """Whether the saying is so where these are its simple ones' truths."""
    return is_so(saying, {simple: word for simple, word in zip(simples(saying), words)})


def is_so(saying, told):
    """Whether the saying is so, with what is told of each simple one in a dict."""
    if saying[0] == "not":
        return not is_so(saying[1], told)
    if saying[0] == "and":
        return is_so(saying[1], told) and is_so(saying[2], told)
    if saying[0] == "or":
        return is_so(saying[1], told) or is_so(saying[2], told)
    return told[saying]
