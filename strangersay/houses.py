"""A house: a crowd with its history, whose deeds are refused where they can't be, and can be taken back."""

from strangersay.calm import is_calm
from strangersay.comings import joined, left, turned
from strangersay.crowds import counts_of, words_in
from strangersay.errors import Full, NoBack, NoCount, NoDeed, NoRow, NoSort, NoState
from strangersay.kinds import is_headed, is_whole_from, is_whole_within
from strangersay.measures import measure
from strangersay.rounds import done, is_row, shifts
from strangersay.sayings import sorts_of
from strangersay.states import is_member_state, is_state
from strangersay.truths import is_true

MOST = 1000000


def want_sort(saying, thing):
    if not is_whole_within(thing, 0, sorts_of(saying) - 1):
        raise NoSort(thing)


def want_member(saying, thing):
    if not is_member_state(saying, thing):
        raise NoState(thing)


def want_state(saying, thing):
    if not is_state(saying, thing):
        raise NoState(thing)


def want_count(thing):
    if not is_whole_from(thing, 1):
        raise NoCount(thing)


def is_deed(thing):
    """Whether it has the form of a deed of a trial, whatever its parts are."""
    if is_headed(thing, "come", 3) or is_headed(thing, "leave", 3):
        return True
    return is_headed(thing, "turn", 4) or is_headed(thing, "do", 2)


def want_deeds(thing):
    """Refuses what is no tuple of deeds, with the number of the first part that is none."""
    if not isinstance(thing, tuple):
        raise NoDeed(0)
    for at, deed in enumerate(thing):
        if not is_deed(deed):
            raise NoDeed(at)


def do_deed(house, deed):
    """Does what has the form of a deed; the house refuses its parts where they are wrong."""
    if deed[0] == "come":
        return house.come(deed[1], many=deed[2])
    if deed[0] == "leave":
        return house.leave(deed[1], many=deed[2])
    if deed[0] == "turn":
        return house.turn(deed[1], deed[2], many=deed[3])
    return house.do(deed[1])


class House:
    """A crowd that begins with nobody."""

    def __init__(self, saying, *, most=MOST):
        self.saying = saying
        self.most = most
        # The crowd, and how many shifts are spent, behind each deed that stands; first as it began.
        self.past = [((), 0)]
        self.begun = 0
        self.ended = 0

    def keep(self, crowd, spent):
        """Keeps what is behind a deed; tells the crowd."""
        self.past.append((crowd, spent))
        return crowd

    def run(self, row):
        crowd = done(self.saying, self.crowd(), row)
        return self.keep(crowd, self.spent() + shifts(self.saying, row))

    def come(self, sort, *, many=1):
        """So many fresh ones of the sort join."""
        want_sort(self.saying, sort)
        want_count(many)
        if sum(self.counts()) + many > self.most:
            raise Full("more members would be there than there may be")
        return self.keep(joined(self.saying, self.crowd(), sort, many=many), 0)

    def leave(self, member, *, many=1):
        """So many who are in that state go."""
        want_member(self.saying, member)
        want_count(many)
        return self.keep(left(self.saying, self.crowd(), member, many=many), 0)

    def turn(self, member, sort, *, many=1):
        """So many who are in that state are of that sort from now on."""
        want_sort(self.saying, sort)
        want_member(self.saying, member)
        want_count(many)
        return self.keep(turned(self.saying, self.crowd(), member, sort, many=many), 0)

    def meet(self, one, other, *, times=1):
        """So many times one in the first state meets one in the other."""
        want_state(self.saying, one)
        want_state(self.saying, other)
        want_count(times)
        return self.run(((times, ((one, other),)),))

    def do(self, row):
        """Does the row of meetings."""
        if not is_row(self.saying, row):
            raise NoRow("this is no row of meetings of this saying's states")
        return self.run(row)

    def back(self):
        """Takes the last deed back that stands."""
        if self.deeds() == 0:
            raise NoBack("no deed stands that could be taken back")
        self.past.pop()
        return self.crowd()

    def crowd(self):
        return self.past[-1][0]

    def counts(self):
        """How many members of each sort are there."""
        return counts_of(self.saying, self.crowd())

    def words(self):
        """How many members say yes, and how many no."""
        return words_in(self.saying, self.crowd())

    def is_true(self):
        """Whether the saying is so of who is there."""
        return is_true(self.saying, self.counts())

    def measure(self):
        """At most so many shifts are to come, till somebody joins, leaves or turns."""
        return measure(self.saying, self.crowd())

    def is_calm(self):
        """Whether no meeting changes anything."""
        return is_calm(self.saying, self.crowd())

    def deeds(self):
        """How many deeds stand."""
        return len(self.past) - 1

    def spent(self):
        """How many shifts were done since somebody last joined, left or turned."""
        return self.past[-1][1]

    def trial(self, deeds, ask):
        """What ask tells of this house behind the deeds; then all but trials() is as it was."""
        want_deeds(deeds)
        past = self.past
        self.past = list(past)
        self.begun += 1
        try:
            for deed in deeds:
                do_deed(self, deed)
            return ask(self)
        finally:
            self.past = past
            self.ended += 1

    def trials(self):
        """How many trials were begun, and how many ended."""
        return self.begun, self.ended
