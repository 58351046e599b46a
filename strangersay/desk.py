"""A desk: a house that is spoken to by lines of text."""

from strangersay.errors import NoLine, NoText
from strangersay.houses import House, do_deed
from strangersay.measures import measures
from strangersay.reading import many_in, read_saying, read_state, sort_in
from strangersay.sayings import sorts_of
from strangersay.showing import show_crowd, show_saying
from strangersay.sums import sums


def come_in(saying, text):
    sort, mark, many = text.partition(" ")
    return ("come", sort_in(sorts_of(saying), sort), many_in(many))


def leave_in(saying, text):
    many, mark, state = text.partition(" ")
    return ("leave", read_state(saying, state), many_in(many))


def turn_in(saying, text):
    sort, mark, others = text.partition(" ")
    many, mark, state = others.partition(" ")
    return ("turn", read_state(saying, state), sort_in(sorts_of(saying), sort), many_in(many))


def meet_in(saying, text):
    times, mark, states = text.partition(" ")
    one, mark, other = states.partition(" / ")
    return ("do", ((many_in(times), ((read_state(saying, one), read_state(saying, other)),)),))


DEEDS = {"come": come_in, "leave": leave_in, "turn": turn_in, "meet": meet_in}


def deed_in(saying, line):
    """The deed that the line tells; NoLine."""
    word, mark, text = line.partition(" ")
    if word not in DEEDS:
        raise NoLine("this is no line that the desk knows")
    reading = DEEDS[word]
    try:
        return reading(saying, text)
    except NoText:
        raise NoLine("this is no line that the desk knows") from None


def in_a_row(numbers):
    return " ".join(str(number) for number in numbers)


def yes_or_no(truth):
    return "yes" if truth else "no"


def tell_crowd(house):
    return show_crowd(house.crowd()).replace("\n", "; ") or "-"


def tell_counts(house):
    return in_a_row(house.counts())


def tell_sums(house):
    return in_a_row(sums(house.saying, house.crowd()))


def tell_measures(house):
    return in_a_row(measures(house.saying, house.crowd()))


def tell_words(house):
    return in_a_row(house.words())


def tell_true(house):
    return yes_or_no(house.is_true())


def tell_calm(house):
    return yes_or_no(house.is_calm())


def tell_saying(house):
    return show_saying(house.saying)


ASKED = {
    "crowd": tell_crowd, "counts": tell_counts, "sums": tell_sums, "measures": tell_measures, "words": tell_words,
    "true": tell_true, "calm": tell_calm, "saying": tell_saying,
}


class Desk:
    """A house of the saying whose text is handed in."""

    def __init__(self, text):
        self.house = House(read_saying(text))

    def say(self, line):
        """Does or answers what the line tells; NoLine of anything else."""
        if not isinstance(line, str):
            raise NoLine("this is no text")
        if line in ASKED:
            telling = ASKED[line]
            return telling(self.house)
        if line == "back":
            self.house.back()
        else:
            do_deed(self.house, deed_in(self.house.saying, line))
        return "done"
