"""The sum of a column in a set of rows, and the least and the greatest one over all mended books."""

from mendsure.blocks import blocks, is_plain
from mendsure.books import is_number_below
from mendsure.errors import NoPlace
from mendsure.mends import mended
from mendsure.values import is_whole


def check_column(book, t, c):
    """Refuse a table or a column that isn't there."""
    if not is_number_below(t, len(book[0])) or not is_number_below(c, book[0][t][0]):
        raise NoPlace("no such table or column")


def count_of(row, t, c):
    """What a row counts for in the sum of a column of a table: names, and rows of other tables, count 0."""
    return row[1][c] if row[0] == t and is_whole(row[1][c]) else 0


def sum_in(book, rows, t, c):
    """The sum of a column of a table in a set of rows."""
    check_column(book, t, c)
    return sum([count_of(book[2][i], t, c) for i in rows])


def ends_by_blocks(book, t, c):
    """A mended book with the least sum of a column and one with the greatest, of a plain book."""

    def count_at(i):
        return count_of(book[2][i], t, c)

    least = [min(block, key=count_at) for block in blocks(book)]
    greatest = [max(block, key=count_at) for block in blocks(book)]
    return (tuple(sorted(least)), tuple(sorted(greatest)))


def ends_by_going_through(book, t, c):
    """A mended book with the least sum of a column and one with the greatest, of any book."""

    def sum_of(rows):
        return sum_in(book, rows, t, c)

    told = mended(book)
    return (min(told, key=sum_of), max(told, key=sum_of))


def sums(book, t, c):
    """The least sum of a column over all mended books, one that has it, the greatest, and one that has that."""
    # A table or column that isn't there is refused ahead of a book that is too wide to go through.
    check_column(book, t, c)
    ends = ends_by_blocks(book, t, c) if is_plain(book) else ends_by_going_through(book, t, c)
    return (sum_in(book, ends[0], t, c), ends[0], sum_in(book, ends[1], t, c), ends[1])
