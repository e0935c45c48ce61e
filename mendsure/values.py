"""Values, whole numbers and names, and the order in which they stand."""

MOST_LETTERS = 8


def is_whole(thing):
    """Whether a thing is a whole number; Python counts truths among its ints, so they are kept out."""
    return isinstance(thing, int) and not isinstance(thing, bool)


def is_name(thing):
    """Whether a thing is a text of one to eight small letters."""
    if not isinstance(thing, str) or not 1 <= len(thing) <= MOST_LETTERS:
        return False
    return all(["a" <= sign <= "z" for sign in thing])


def is_value(thing):
    """Whether a thing is a whole number of at most thirty figures, or a name."""
    if is_whole(thing):
        return abs(thing) < 10 ** 30
    return is_name(thing)


def value_rank(value):
    """A tuple that Python compares as values are ordered, though it can't compare a number and a name."""
    if isinstance(value, str):
        return (1, 0, value)
    return (0, value, "")


def tuple_rank(values):
    """A tuple that Python compares as tuples of values are ordered."""
    return tuple([value_rank(value) for value in values])


def ahead(one, other):
    """Whether of two values, or of two tuples of as many, the one is ahead of the other."""
    if isinstance(one, tuple):
        return tuple_rank(one) < tuple_rank(other)
    return value_rank(one) < value_rank(other)


def in_order(some):
    """The tuples of a list in their order, each once."""
    ordered = []
    for values in sorted(some, key=tuple_rank):
        if not ordered or ordered[-1] != values:
            ordered.append(values)
    return ordered
