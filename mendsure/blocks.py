"""Plain books, which have no rules but their keys, and their blocks."""

from mendsure.breaks import key_of
from mendsure.errors import NoPlace, NotPlain


def is_plain(book):
    """Whether a book has no rules."""
    return len(book[1]) == 0


def blocks(book):
    """The blocks of a plain book: the lists of those rows that have a key in common, by their first rows."""
    if not is_plain(book):
        raise NotPlain("a book with rules has no blocks")
    by_key = {}
    for i, row in enumerate(book[2]):
        by_key.setdefault(key_of(book[0], row), []).append(i)
    return list(by_key.values())


def many_by_blocks(book):
    """How many mended books a plain book has."""
    many = 1
    for block in blocks(book):
        many *= len(block)
    return many


def chosen(book, number):
    """The mended book of a number from 0 on, of a plain book, the last block's rows being gone through first."""
    # Asked first of all, since it refuses a book that isn't plain, which goes ahead of any number.
    many = many_by_blocks(book)
    if not 0 <= number < many:
        raise NoPlace("no mended book has this number")
    rows = []
    left = number
    for block in reversed(blocks(book)):
        rows.append(block[left % len(block)])
        left //= len(block)
    return tuple(sorted(rows))
