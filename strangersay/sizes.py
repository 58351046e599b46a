"""The numbers of a simple saying: how great they get, and what they say."""


def size_of(simple):
    """How great a member's number can be."""
    if simple[0] == "rest":
        return simple[3] - 1
    return max(1 + abs(simple[2]), max(abs(worth) for worth in simple[1]))


def says(simple, number):
    """Whether the simple saying is so by this number alone."""
    if simple[0] == "rest":
        return number == simple[2]
    return number >= simple[2]


def left_by(simple, number):
    """Of a rest what is left of the number by its divisor, of a sum the number."""
    if simple[0] == "rest":
        return number % simple[3]
    return number


def cut(simple, number):
    """What a member can bear of the number, and what is left over."""
    if simple[0] == "rest":
        return left_by(simple, number), 0
    size = size_of(simple)
    kept = max(-size, min(size, number))
    return kept, number - kept
