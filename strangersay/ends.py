"""Where a table leads: the crowds that are reached, and the last rooms, which none leads out of."""

from strangersay.errors import TooMany
from strangersay.tables import can_meet

MOST_REACHED = 2000


def moved(crowd, row):
    """The crowd behind one meeting by the table's row."""
    p, q, p2, q2 = row
    behind = list(crowd)
    behind[p] -= 1
    behind[q] -= 1
    behind[p2] += 1
    behind[q2] += 1
    return tuple(behind)


def rows_there(told, crowd):
    """The rows that can be done there, told by a dict of the pairs that have one."""
    # A small crowd is in few of the states: its pairs are sooner asked than all rows.
    there = [state for state, many in enumerate(crowd) if many > 0]
    return [told[(p, q)] for p in there for q in there if (p, q) in told and can_meet(crowd, p, q)]


def note_crowd(crowds, numbers, crowd):
    """Puts the crowd to those found, where it is new; TooMany where it is one too many."""
    if crowd in numbers:
        return
    if len(crowds) == MOST_REACHED:
        raise TooMany("more crowds are reached than are told")
    numbers[crowd] = len(crowds)
    crowds.append(crowd)


def crowds_and_ways(table, crowd):
    """All crowds that are reached, and of each the numbers of those that one meeting leads to; TooMany."""
    told = {row[:2]: row for row in table[4]}
    crowds = [crowd]
    numbers = {crowd: 0}
    ways = []
    while len(ways) < len(crowds):
        ahead = crowds[len(ways)]
        nexts = sorted({moved(ahead, row) for row in rows_there(told, ahead)})
        for behind in nexts:
            note_crowd(crowds, numbers, behind)
        ways.append([numbers[behind] for behind in nexts])
    return crowds, ways


def reached(table, crowd):
    """The rising tuple of all crowds that rows of meetings lead to, itself too; TooMany."""
    return tuple(sorted(crowds_and_ways(table, crowd)[0]))


def ways_back(ways):
    """Of each number those that lead to it."""
    backs = [[] for nexts in ways]
    for at, nexts in enumerate(ways):
        for behind in nexts:
            backs[behind].append(at)
    return backs


def walked(ways, start, seen):
    """Sees all that the start leads to and isn't seen yet; told in the order in which a walk in depth leaves them."""
    order = []
    stack = [(start, False)]
    while stack:
        at, is_left = stack.pop()
        if is_left:
            order.append(at)
        elif not seen[at]:
            seen[at] = True
            stack.append((at, True))
            stack.extend([(behind, False) for behind in ways[at]])
    return order


def last_rooms(ways):
    """The rooms, of numbers, each of which leads to all of its room and to no other one."""
    backs = ways_back(ways)
    seen = [False] * len(ways)
    order = []
    for start in range(len(ways)):
        order.extend(walked(backs, start, seen))
    settled = [False] * len(ways)
    rooms = []
    # Walked backward, whom others lead to is left behind them: so the last one left is in a last room, and so is
    # the last one of those that lead to none of the rooms found.
    for start in reversed(order):
        if not settled[start]:
            rooms.append(walked(ways, start, [False] * len(ways)))
            walked(backs, start, settled)
    return rooms


def ends(table, crowd):
    """The rising tuple of the last rooms, each a rising tuple of crowds; TooMany."""
    crowds, ways = crowds_and_ways(table, crowd)
    return tuple(sorted(tuple(sorted(crowds[at] for at in room)) for room in last_rooms(ways)))
