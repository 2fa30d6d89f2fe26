"""Which plain kind a thing is of: a truth counts as no whole number."""


def is_whole(thing):
    """Whether a thing is a whole number."""
    return isinstance(thing, int) and not isinstance(thing, bool)


def is_between(thing, low, high):
    """Whether a thing is a whole number from low to high."""
    return is_whole(thing) and low <= thing <= high


def is_truth(thing):
    """Whether a thing is True or False."""
    return isinstance(thing, bool)


def is_tuple_of(thing, many):
    """Whether a thing is a tuple of so many things."""
    return isinstance(thing, tuple) and len(thing) == many


def rises(row):
    """Whether each thing of a row stands behind the one ahead of it in order, none twice."""
    return all([one < later for one, later in zip(row, row[1:])])
