"""A ledger: a book whose rows come and go, and which answers of them as they are."""

from mendsure.blocks import is_plain, many_by_blocks
from mendsure.books import MOST_ROWS, book_of, is_number_below, is_row
from mendsure.breaks import all_rows, breaks
from mendsure.errors import Double, NoPlace, NoRow, TooGreat, Twice
from mendsure.mends import many_mended, mended_at
from mendsure.otherwise import surely
from mendsure.sure import maybe, sure
from mendsure.sways import ring
from mendsure.wording import read_question


def has_formula(book, question):
    """Whether the sure answers of a question can be found by a formula."""
    if not is_plain(book):
        return False
    try:
        return ring(book[0], question) is None
    except Double:
        return False


class Ledger:
    """Tables and rules, and the rows that were put and not taken out again."""

    def __init__(self, tables, rules=None):
        empty = book_of(tables, [] if rules is None else rules, [])
        self.tables = empty[0]
        self.rules = empty[1]
        self.rows = []

    def put(self, t, cells):
        """Put a row, and tell the number that it has."""
        place = len(self.rows)
        if place >= MOST_ROWS:
            raise TooGreat("no more rows than a book may have")
        row = (t, cells)
        if not is_row(row, self.tables):
            raise NoRow(place)
        if row in self.rows:
            raise Twice(place)
        self.rows.append(row)
        return place

    def take(self, number):
        """Take out the row of a number; those behind it move up."""
        if not is_number_below(number, len(self.rows)):
            raise NoPlace("no row has this number")
        self.rows.pop(number)

    def book(self):
        """The book as it is."""
        return (self.tables, self.rules, tuple(self.rows))

    def breaks(self):
        """The breaks of all rows, sorted, each once."""
        book = self.book()
        return breaks(book, all_rows(book))

    def many(self):
        """How many mended books there are."""
        book = self.book()
        return many_by_blocks(book) if is_plain(book) else many_mended(book)

    def mended_at(self, number):
        """The mended book of a number from 0 on."""
        return mended_at(self.book(), number)

    def sure(self, text):
        """The sure answers to a question's text, in their order, each once."""
        book = self.book()
        question = read_question(self.tables, text)
        return surely(book, question) if has_formula(book, question) else sure(book, question)

    def maybe(self, text):
        """The maybe answers to a question's text, in their order, each once."""
        return maybe(self.book(), read_question(self.tables, text))

    def way(self, text):
        """How the sure answers to a question's text are found: formula, or through, by going through."""
        question = read_question(self.tables, text)
        return "formula" if has_formula(self.book(), question) else "through"
