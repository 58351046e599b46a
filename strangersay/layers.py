"""Layers: papers that a table comes to rest."""

from strangersay.kinds import is_tuple_of, is_whole_from, is_whole_within


def is_numbers(many, thing):
    """Whether it is the rising tuple of some of so many rows' numbers, one at least."""
    if not isinstance(thing, tuple) or len(thing) == 0:
        return False
    if not all(is_whole_within(number, 0, many - 1) for number in thing):
        return False
    return all(thing[at - 1] < thing[at] for at in range(1, len(thing)))


def is_weights(many, thing):
    return is_tuple_of(thing, many) and all(is_whole_from(weight, 0) for weight in thing)


def is_layer(table, thing):
    return is_tuple_of(thing, 2) and is_numbers(len(table[4]), thing[0]) and is_weights(table[1], thing[1])


def is_layers(table, thing):
    """Whether these are layers of the table, right or not; it may be anything."""
    if not isinstance(thing, tuple) or not all(is_layer(table, layer) for layer in thing):
        return False
    return sorted(number for numbers, weights in thing for number in numbers) == list(range(len(table[4])))


def makes_less(weights, row):
    """Whether the row makes the weights of its two states together less."""
    p, q, p2, q2 = row
    return weights[p2] + weights[q2] < weights[p] + weights[q]


def wakes(awake, row):
    """Whether the row may wake one of the layers ahead; awake tells of each state with which ones it has a row there.

    A pair of them that is there behind the row was there ahead of it, where the row gave neither of the two; so it
    is enough to ask for pairs with one of the two states that the row gives.
    """
    p, q, p2, q2 = row
    if q in awake[p]:
        return False
    for given, beside in ((p2, q2), (q2, p2)):
        for partner in awake[given]:
            # Where the row gives both, none but p and q are known to have been there; else the partner was, too.
            if partner == beside or not (partner in awake[p] or partner in awake[q]):
                return True
    return False


def put_awake(awake, row):
    """Puts the row's pair, in both orders, to those of the layers ahead."""
    awake[row[0]][row[1]] = True
    awake[row[1]][row[0]] = True


def shows_layers(table, thing):
    """Whether these are right layers of the table; it may be anything."""
    if not is_layers(table, thing):
        return False
    awake = [{} for word in table[3]]
    for numbers, weights in thing:
        rows = [table[4][number] for number in numbers]
        if not all(makes_less(weights, row) and not wakes(awake, row) for row in rows):
            return False
        for row in rows:
            put_awake(awake, row)
    return True
