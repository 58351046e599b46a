"""Reading of texts: what is written just as showing writes it, and nothing else."""

from strangersay.errors import NoText
from strangersay.sayings import MOST_DEEP, MOST_SORTS, is_saying, sorts_of
from strangersay.showing import LETTERS, show_saying
from strangersay.states import is_state

FIGURES = "0123456789"
MOST_FIGURES = 30


def number_in(text):
    """The number that is written so; NoText(0)."""
    figures = text[1:] if text.startswith("-") else text
    # Counted ahead of reading: Python refuses to read numbers of thousands of figures.
    if not 1 <= len(figures) <= MOST_FIGURES or not all(sign in FIGURES for sign in figures):
        raise NoText(0)
    number = int(text)
    if str(number) != text:
        raise NoText(0)
    return number


def many_in(text):
    """The whole number from 1 that is written so; NoText(0)."""
    many = number_in(text)
    if many < 1:
        raise NoText(0)
    return many


def sort_in(sorts, text):
    """The number of the sort whose letter it is, of so many; NoText(0)."""
    if text not in LETTERS[:sorts]:
        raise NoText(0)
    return LETTERS.index(text)


def worths_in(sorts, text):
    """The worths of the terms; read freely, as what is read is shown again and compared."""
    worths = [0] * sorts
    if text == "0":
        return tuple(worths)
    for term in text.replace(" - ", " + -").split(" + "):
        worths[sort_in(sorts, term[-1:])] = number_in(term[:-1])
    return tuple(worths)


def simple_in(sorts, text):
    terms, mark, bound = text.partition(" >= ")
    if mark != "":
        return ("sum", worths_in(sorts, terms), number_in(bound))
    terms, mark, bounds = text.partition(" rest ")
    rest, mark, divisor = bounds.partition(" of ")
    return ("rest", worths_in(sorts, terms), number_in(rest), number_in(divisor))


def closing_at(text):
    """Where the bracket is closed that the text begins with; NoText(0)."""
    deep = 0
    for at, sign in enumerate(text):
        if sign == "(":
            deep += 1
        elif sign == ")":
            deep -= 1
        if deep == 0:
            return at
    raise NoText(0)


def pair_in(sorts, text, deep):
    """The saying that is joined of two, the first of which stands in the bracket that the text begins with."""
    at = closing_at(text)
    word, mark, second = text[at + 2:].partition(" (")
    if word not in ("and", "or"):
        raise NoText(0)
    return (word, bare_in(sorts, text[1:at], deep), bare_in(sorts, second[:-1], deep))


def bare_in(sorts, text, deep):
    """The saying of a text without sorts ahead, at most so many within one another; NoText(0)."""
    if deep == 0:
        raise NoText(0)
    if text.startswith("("):
        return pair_in(sorts, text, deep - 1)
    if text.startswith("not ("):
        return ("not", bare_in(sorts, text[5:-1], deep - 1))
    return simple_in(sorts, text)


def read_saying(text):
    """The saying that is written so; NoText(0) of anything else."""
    if not isinstance(text, str):
        raise NoText(0)
    head, mark, bare = text.partition(": ")
    sorts = number_in(head)
    if not 1 <= sorts <= MOST_SORTS:
        raise NoText(0)
    saying = bare_in(sorts, bare, MOST_DEEP)
    if not is_saying(saying) or show_saying(saying) != text:
        raise NoText(0)
    return saying


def borne_in(text):
    """Whether it leads, and its number; NoText(0)."""
    if text.startswith("!"):
        return (True, number_in(text[1:]))
    return (False, number_in(text))


def hold_in(text):
    """The member's hold that is written so; NoText(0)."""
    if text[-1:] not in ("y", "n"):
        raise NoText(0)
    leads, number = borne_in(text[:-1])
    return (leads, number, text.endswith("y"))


def read_state(saying, text):
    """The state of this saying that is written so; NoText(0) of anything else."""
    if not isinstance(text, str):
        raise NoText(0)
    head, *parts = text.split(" ")
    if head == "-":
        state = ("note", tuple(borne_in(part) for part in parts))
    else:
        state = ("member", sort_in(sorts_of(saying), head), tuple(hold_in(part) for part in parts))
    if not is_state(saying, state):
        raise NoText(0)
    return state


def group_in(saying, text):
    """The state, and how many are in it, of a crowd's row; NoText(0)."""
    many, mark, state = text.partition(" ")
    return (read_state(saying, state), many_in(many))


def read_crowd(saying, text):
    """The crowd that is written so; NoText(row) of anything else, with the first row that is wrong."""
    if not isinstance(text, str):
        raise NoText(0)
    if text == "":
        return ()
    groups = []
    for at, row in enumerate(text.split("\n")):
        try:
            groups.append(group_in(saying, row))
        except NoText:
            raise NoText(at) from None
        if at > 0 and groups[at][0] <= groups[at - 1][0]:
            raise NoText(at)
    return tuple(groups)
