"""Texts of sayings, states and crowds."""

from strangersay.sayings import sorts_of
from strangersay.states import is_note

LETTERS = ("a", "b", "c", "d", "e", "f")


def show_sign(worth, is_first):
    """What stands ahead of a term's figures."""
    if is_first:
        return "-" if worth < 0 else ""
    return " - " if worth < 0 else " + "


def show_terms(worths):
    text = ""
    for letter, worth in zip(LETTERS, worths):
        if worth != 0:
            text += show_sign(worth, text == "") + f"{abs(worth)}{letter}"
    return text or "0"


def show_bare(saying):
    """The saying's text without the sorts ahead."""
    if saying[0] == "sum":
        return f"{show_terms(saying[1])} >= {saying[2]}"
    if saying[0] == "rest":
        return f"{show_terms(saying[1])} rest {saying[2]} of {saying[3]}"
    if saying[0] == "not":
        return f"not ({show_bare(saying[1])})"
    return f"({show_bare(saying[1])}) {saying[0]} ({show_bare(saying[2])})"


def show_saying(saying):
    """The saying's text."""
    return f"{sorts_of(saying)}: {show_bare(saying)}"


def show_word(word):
    return "y" if word else "n"


def show_borne(hold):
    """Whether it leads, and its number."""
    return f"!{hold[1]}" if hold[0] else f"{hold[1]}"


def show_state(state):
    """The text of a member or of a note."""
    if is_note(state):
        return "".join(["-"] + [f" {show_borne(hold)}" for hold in state[1]])
    return "".join([LETTERS[state[1]]] + [f" {show_borne(hold)}{show_word(hold[2])}" for hold in state[2]])


def show_crowd(crowd):
    """The crowd's text: a row for each state."""
    return "\n".join(f"{many} {show_state(state)}" for state, many in crowd)
