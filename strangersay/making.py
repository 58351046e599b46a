"""The table of a saying: its rule spelt out for all that members can come to bear."""

from strangersay.errors import TooMany
from strangersay.meetings import holds_met
from strangersay.sayings import simples, sorts_of
from strangersay.states import fresh
from strangersay.tables import MOST_STATES
from strangersay.truths import by_words


def first_holds(saying):
    """The holds of a fresh one of each sort."""
    return [fresh(saying, sort)[2] for sort in range(sorts_of(saying))]


def note_holds(found, known, holds):
    """Puts the holds to those found, where they are new; TooMany where they are one too many."""
    if holds in known:
        return
    if len(found) == MOST_STATES:
        raise TooMany("members of this saying can bear more than a table has states")
    known[holds] = True
    found.append(holds)


def holds_between(ones, one, other):
    """What two with these holds bear behind their meeting, whichever is told first."""
    return [*holds_met(ones, one, other), *holds_met(ones, other, one)]


def holds_made(saying):
    """The rising tuple of all holds that come of fresh ones by meetings of members; TooMany."""
    ones = simples(saying)
    found = []
    known = {}
    for holds in first_holds(saying):
        note_holds(found, known, holds)
    at = 0
    while at < len(found):
        # Of any two found there can be some at once, in separate parts of a great enough crowd.
        for before in range(at + 1):
            one = found[at]
            other = found[before]
            for holds in holds_between(ones, one, other):
                note_holds(found, known, holds)
        at += 1
    return tuple(sorted(found))


def made_rows(ones, all_holds):
    """The rows of all pairs that a meeting changes."""
    numbers = {holds: number for number, holds in enumerate(all_holds)}
    rows = []
    for p, one in enumerate(all_holds):
        for q, other in enumerate(all_holds):
            first, second = holds_met(ones, one, other)
            if (first, second) != (one, other):
                rows.append((p, q, numbers[first], numbers[second]))
    return tuple(rows)


def made(saying):
    """The table of the saying, its states the holds of holds_made in their order; TooMany likewise."""
    all_holds = holds_made(saying)
    firsts = tuple(all_holds.index(holds) for holds in first_holds(saying))
    words = tuple(by_words(saying, tuple(hold[2] for hold in holds)) for holds in all_holds)
    return ("table", len(all_holds), firsts, words, made_rows(simples(saying), all_holds))
