"""Mended books: the greatest good sets of a book's rows."""

from mendsure.breaks import all_rows, clashes, held, tied_within, ties_of
from mendsure.errors import NoPlace, TooWide

MOST_CLASHING = 15


def foes_of(book):
    """Of each row that clashes with some row, by its number, the list of those that it clashes with."""
    foes = {}
    for i, j in clashes(book):
        foes.setdefault(i, []).append(j)
        foes.setdefault(j, []).append(i)
    return foes


def check_width(foes):
    """Refuse a book in which too many rows clash."""
    if len(foes) > MOST_CLASHING:
        raise TooWide(len(foes))


def is_full(rows, known, foes):
    """Whether each known row is among these rows, or clashes with one of them."""
    return all([i in rows or any([j in rows for j in foes[i]]) for i in known])


def peaceful_sets(foes):
    """The greatest sets of clashing rows, no two of which clash with one another.

    The rows come in one by one, and the sets told so far are the greatest ones of the rows that are in: such a set
    stays where the newest row clashes with it, and gives way to the newest row without those it clashes with.
    """
    known = []
    told = [()]
    for newest in sorted(foes):
        known.append(newest)
        grown = {}
        for rows in told:
            left = tuple([i for i in rows if i not in foes[newest]])
            if left != rows:
                grown[rows] = True
            if is_full(left + (newest,), known, foes):
                grown[left + (newest,)] = True
        told = list(grown)
    return told


def has_all(rows, some):
    """Whether a set of rows has all of some rows."""
    return len(set(some) - set(rows)) == 0


def has_all_and_more(rows, some):
    """Whether a set of rows has all of some rows, and others too."""
    return len(rows) > len(some) and has_all(rows, some)


def mended(book):
    """The mended books, rising, each once.

    A good set is held, and no two of its rows clash. So each mended book is what is held of the rows that clash with
    none and one greatest set of clashing rows at peace; but by its ties such a one may have lost so much that another
    one has it all.
    """
    foes = foes_of(book)
    check_width(foes)
    unharmed = [i for i in held(book, all_rows(book)) if i not in foes]
    ties = ties_of(book)
    found = {}
    for rows in peaceful_sets(foes):
        found[tied_within(ties, sorted(unharmed + list(rows)))] = True
    return sorted([rows for rows in found if not any([has_all_and_more(other, rows) for other in found])])


def many_mended(book):
    """How many mended books there are."""
    return len(mended(book))


def mended_at(book, number):
    """The mended book of a number from 0 on."""
    told = mended(book)
    if not 0 <= number < len(told):
        raise NoPlace("no mended book has this number")
    return told[number]


def is_mended(book, rows):
    """Whether a set of rows is a mended book."""
    return tuple(rows) in mended(book)


def mended_with(book, rows):
    """The first mended book that has all of some rows, or None."""
    for told in mended(book):
        if has_all(told, rows):
            return told
    return None
