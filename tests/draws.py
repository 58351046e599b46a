"""Sayings, crowds and histories drawn for tests, the same ones each time."""
import random

from strangersay.calm import stirs
from strangersay.comings import joined, left, turned
from strangersay.crowds import counts_of
from strangersay.errors import TooMany
from strangersay.making import holds_made
from strangersay.rounds import done
from strangersay.sayings import sorts_of
from tests.samples import EVEN, REST, SIXTY, SOME, SUM


def some_simple(chance, sorts):
    worths = tuple(chance.choice((0, 1, -1, chance.randint(-9, 9))) for _ in range(sorts))
    if chance.random() < 0.4:
        divisor = chance.randint(2, 9)
        return ("rest", worths, chance.randrange(divisor), divisor)
    return ("sum", worths, chance.choice((0, 1, chance.randint(-20, 20))))


def some_saying(chance, simple_ones=None, sorts=None):
    """A saying of so many unlike simple ones, joined in some way."""
    simple_ones = simple_ones or chance.randint(1, 3)
    sorts = sorts or chance.randint(1, 6)
    unlike = []
    while len(unlike) < simple_ones:
        simple = some_simple(chance, sorts)
        if simple not in unlike:
            unlike.append(simple)
    saying = unlike[0]
    for simple in unlike[1:]:
        saying = (chance.choice(("and", "or")), saying, simple)
    return ("not", saying) if chance.random() < 0.3 else saying


def small_sayings():
    """Drawn sayings with at most sixty holds."""
    chance = random.Random(81)
    found = [EVEN, SOME, SUM, REST, ("not", SUM), ("or", EVEN, SOME), SIXTY]
    while len(found) < 60:
        saying = some_saying(chance, simple_ones=chance.choice((1, 1, 2)))
        try:
            holds_made(saying)
        except TooMany:
            continue
        found.append(saying)
    return found


def individuals(crowd):
    return [state for state, many in crowd for _ in range(many)]


def members_in(crowd):
    return [state for state in individuals(crowd) if state[0] == "member"]


def some_meeting(crowd, chance):
    """A pair of two who are there."""
    return tuple(chance.sample(individuals(crowd), 2))


def stepped(saying, crowd, chance, most):
    """The crowd behind one joining, leaving, turning or meeting."""
    members = members_in(crowd)
    deed = chance.choice(("join", "join", "leave", "turn", "meet", "meet", "meet", "meet"))
    sort = chance.randrange(sorts_of(saying))
    if deed == "join" and len(individuals(crowd)) < most:
        return joined(saying, crowd, sort)
    if deed == "leave" and members:
        return left(saying, crowd, chance.choice(members))
    if deed == "turn" and members and len(individuals(crowd)) < most:
        return turned(saying, crowd, chance.choice(members), sort)
    if len(individuals(crowd)) > 1:
        return done(saying, crowd, ((1, (some_meeting(crowd, chance),)),))
    return crowd


def some_history(saying, chance, steps, most=8):
    """The crowds of a history that begins with nobody."""
    crowds = [()]
    for _ in range(steps):
        crowds.append(stepped(saying, crowds[-1], chance, most))
    return crowds


def calmed(saying, crowd, chance):
    """A calm crowd that drawn meetings, each of which changes something, lead to."""
    pairs = stirs(saying, crowd)
    while pairs:
        crowd = done(saying, crowd, ((1, (chance.choice(pairs),)),))
        pairs = stirs(saying, crowd)
    return crowd


def has_members(saying, crowd):
    return sum(counts_of(saying, crowd)) > 0


def some_table(chance, states, rows, sorts=1):
    """A table of so many states, and of at most so many rows."""
    told = {}
    for _ in range(rows):
        p, q, p2, q2 = [chance.randrange(states) for _ in range(4)]
        if (p, q) != (p2, q2):
            told[(p, q)] = (p, q, p2, q2)
    firsts = tuple(chance.randrange(states) for _ in range(sorts))
    words = tuple(chance.random() < 0.5 for _ in range(states))
    return ("table", states, firsts, words, tuple(sorted(told.values())))


def drawn_layers(chance, table):
    """Layers of the table, most often with weights that fall within each."""
    order = list(range(len(table[4])))
    chance.shuffle(order)
    layers = []
    while order:
        size = chance.randint(1, len(order))
        numbers, order = sorted(order[:size]), order[size:]
        layers.append((tuple(numbers), tuple(chance.randint(0, 3) for _ in range(table[1]))))
    return tuple(layers)


def falling_table(chance, states, rows):
    """A table each row of which makes the numbers of its states together less."""
    told = {}
    for _ in range(rows):
        p, q, p2, q2 = [chance.randrange(states) for _ in range(4)]
        if p2 + q2 < p + q:
            told[(p, q)] = (p, q, p2, q2)
    return ("table", states, (0,), (True,) * states, tuple(sorted(told.values())))


def house_step(house, chance, most=8):
    """Does one drawn deed in the house; tells what it tells."""
    there = house.crowd()
    everybody, members = individuals(there), members_in(there)
    sort = chance.randrange(sorts_of(house.saying))
    deed = chance.choice(("come", "come", "leave", "turn", "meet", "meet", "meet", "do"))
    if deed == "leave" and members:
        return house.leave(chance.choice(members))
    if deed == "turn" and members and len(everybody) < most:
        return house.turn(chance.choice(members), sort)
    if deed == "meet" and len(everybody) > 1:
        return house.meet(*some_meeting(there, chance))
    if deed == "do" and len(everybody) > 3:
        first, second, third, fourth = chance.sample(everybody, 4)
        return house.do(((1, ((first, second), (third, fourth))),))
    if len(everybody) < most:
        return house.come(sort, many=chance.randint(1, 2))
    return house.do(())
