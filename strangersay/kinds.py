"""What kind a thing is that may be anything."""


def is_whole(thing):
    """Whether it is a whole number: Python's truths are ints, but no numbers here."""
    return isinstance(thing, int) and not isinstance(thing, bool)


def is_whole_from(thing, low):
    return is_whole(thing) and thing >= low


def is_whole_within(thing, low, high):
    return is_whole(thing) and low <= thing <= high


def is_tuple_of(thing, many):
    """Whether it is a tuple of so many parts, whatever these are."""
    return isinstance(thing, tuple) and len(thing) == many


def is_headed(thing, word, many):
    """Whether it is a tuple of so many parts, the first of which is the word."""
    # A part may be an object with an == of its own: only a text is compared.
    return is_tuple_of(thing, many) and isinstance(thing[0], str) and thing[0] == word
