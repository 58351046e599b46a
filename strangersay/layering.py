"""The layers of made tables, and rows of meetings by which a table comes to rest."""

from strangersay.ends import moved
from strangersay.making import holds_made, made
from strangersay.tables import can_meet


def leads(holds):
    # Fresh ones lead in each simple one, and a meeting gives or takes all leads at once: one tells of all.
    return holds[0][0]


def numbers_of(holds):
    return tuple(hold[1] for hold in holds)


def words_of(holds):
    return tuple(hold[2] for hold in holds)


def layer_place(all_holds, row):
    """The place of the row's layer among the others."""
    one, other, behind, beside = [all_holds[state] for state in row]
    if leads(one) and leads(other):
        return (0, ())
    if numbers_of(one) != numbers_of(behind) or numbers_of(other) != numbers_of(beside):
        return (1, ())
    # Two who lead and say otherwise would turn a word to and fro: each tells its words in a layer of its own.
    return (2, words_of(one) if leads(one) else words_of(other))


def place_weight(place, holds):
    """What one with these holds weighs in the layer of this place."""
    if place[0] == 0:
        return 1 if leads(holds) else 0
    if leads(holds):
        return 0
    if place[0] == 1:
        return sum(abs(number) for number in numbers_of(holds))
    return sum(1 for word, told in zip(words_of(holds), place[1]) if word != told)


def layers_made(saying):
    """Right layers of the saying's made table: who leads, then the numbers, then the words; TooMany."""
    all_holds = holds_made(saying)
    numbers = {}
    for number, row in enumerate(made(saying)[4]):
        numbers.setdefault(layer_place(all_holds, row), []).append(number)
    return tuple((tuple(numbers[place]), tuple(place_weight(place, holds) for holds in all_holds))
                 for place in sorted(numbers))


def rest_rows(rows, crowd, meetings):
    """The crowd at which none of the rows can be done any more; puts the meetings to there to those told."""
    again = True
    while again:
        again = False
        # By turns: the first one that can be done, again and again, can take far longer.
        for row in rows:
            while can_meet(crowd, row[0], row[1]):
                meetings.append(row[:2])
                crowd = moved(crowd, row)
                again = True
    return crowd


def resting(table, layers, crowd):
    """A row that leads the crowd to one at which no row of the table can be done, layer by layer."""
    meetings = []
    for numbers, weights in layers:
        # By right layers those ahead stay at rest.
        crowd = rest_rows([table[4][number] for number in numbers], crowd, meetings)
    return tuple((1, (pair,)) for pair in meetings)
