"""Small books against a plain search over all sets of their rows [3, 7, 10, 11, 12]."""

import itertools
import unittest

from mendsure.books import book_of
from mendsure.breaks import breaks, clashes, good, held
from mendsure.mends import is_mended, many_mended, mended, mended_at, mended_with

from plain_search import Chance, all_sets, plain_breaks, plain_clashes, plain_held, plain_mended


class TestSmallBooks(unittest.TestCase):
    def check_book(self, book):
        with self.subTest(book=book):
            expected = plain_mended(book)
            self.assertEqual(mended(book), expected)
            self.assertEqual(many_mended(book), len(expected))
            self.assertEqual([mended_at(book, number) for number in range(len(expected))], expected)
            self.assertEqual(clashes(book), plain_clashes(book))
            rows = tuple(range(len(book[2])))
            if plain_breaks(book, rows) == []:
                self.assertEqual(expected, [rows])
            return expected

    def check_sets(self, book, sets, expected):
        for some in sets:
            with self.subTest(book=book, some=some):
                found = plain_breaks(book, some)
                self.assertEqual(breaks(book, some), found)
                self.assertIs(good(book, some), found == [])
                self.assertEqual(held(book, some), plain_held(book, some))
                self.assertIs(is_mended(book, some), some in expected)
                first = [told for told in expected if set(some) <= set(told)][:1]
                self.assertEqual(mended_with(book, some), first[0] if first else None)

    def test_every_set_of_small_books(self):
        chance = Chance(1)
        for case in range(120):
            book = chance.book(5, ("never", "apart", "tie"))
            self.check_sets(book, all_sets(range(len(book[2]))), self.check_book(book))

    def test_somewhat_greater_books(self):
        chance = Chance(2)
        for words in (("never", "apart", "tie"), ("tie",), ("apart", "tie"), ("tie", "tie", "never")):
            for case in range(40):
                book = chance.book(8, words)
                sets = [tuple(range(len(book[2]))), tuple(range(0, len(book[2]), 2))]
                self.check_sets(book, sets, self.check_book(book))

    def test_all_books_of_one_table_and_a_tie(self):
        cells = list(itertools.product((0, 1), repeat=2))
        rules = [("tie", 0, (0,), 0, (1,)), ("tie", 0, (1,), 0, (0,)), ("tie", 0, (0, 1), 0, (1, 0))]
        for key, rule in itertools.product((0, 1, 2), rules):
            for some in all_sets(cells):
                self.check_book(book_of([(2, key)], [rule], [(0, row) for row in some]))


if __name__ == "__main__":
    unittest.main()
