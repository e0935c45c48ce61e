"""The sum of a column, and the least and the greatest one over all mended books [2, 3, 11, 20]."""

import copy
import unittest

from mendsure.blocks import chosen, many_by_blocks
from mendsure.books import book_of
from mendsure.errors import NoPlace, TooWide
from mendsure.mends import is_mended, mended
from mendsure.sums import sum_in, sums

GREATEST = int("9" * 30)
NEVER = ("never", 0, ((("cell", 0, 1), "same", ("is", "bad")),))

# Blocks 0 and 1, 2 and 3, 4, 5 and 6 and 7; the last ones of table 1.
PLAIN = book_of([(2, 1), (2, 1), (1, 1)], [], [
    (0, ("ann", 3)), (0, ("ann", 4)), (0, ("bob", -7)), (0, ("bob", "x")), (0, (100, 5)),
    (1, (1, 50)), (1, (1, 60)), (1, (1, "y")),
])


class SumsCase(unittest.TestCase):
    def check(self, book, t, c, least, greatest):
        """The two sums, and that the mended books told have them; gives back these two."""
        with self.subTest(book=book, t=t, c=c):
            told = sums(book, t, c)
            self.assertIs(type(told), tuple)
            self.assertEqual(len(told), 4)
            self.assertEqual((told[0], told[2]), (least, greatest))
            self.assertEqual([type(part) for part in told], [int, tuple, int, tuple])
            for rows, expected in ((told[1], least), (told[3], greatest)):
                self.assertEqual(rows, tuple(sorted(set(rows))))
                self.assertEqual(sum_in(book, rows, t, c), expected)
            return told[1], told[3]

    def check_mended(self, book, t, c, least, greatest):
        for rows in self.check(book, t, c, least, greatest):
            self.assertTrue(is_mended(book, rows))


class TestSumIn(unittest.TestCase):
    def check(self, rows, t, c, expected):
        with self.subTest(rows=rows, t=t, c=c):
            self.assertEqual(sum_in(PLAIN, rows, t, c), expected)
            self.assertIs(type(sum_in(PLAIN, rows, t, c)), int)

    def test_of_mended_books(self):
        self.check((0, 2, 4, 5), 0, 1, 1)
        self.check((1, 3, 4, 7), 0, 1, 9)

    def test_of_any_set(self):
        self.check((), 0, 1, 0)
        self.check((0, 1, 2, 3, 4, 5, 6, 7), 0, 1, 5)
        self.check((0, 1), 0, 1, 7)
        self.check((2,), 0, 1, -7)

    def test_names_count_0(self):
        self.check((3,), 0, 1, 0)
        self.check((0, 1, 2, 3), 0, 0, 0)
        self.check((0, 4), 0, 0, 100)
        self.check((5, 7), 1, 1, 50)

    def test_other_tables_do_not_count(self):
        self.check((0, 5), 0, 1, 3)
        self.check((0, 5), 1, 1, 50)
        self.check((0, 5), 2, 0, 0)

    def test_great_numbers(self):
        book = book_of([(2, 2)], [], [(0, (number, GREATEST)) for number in range(60)])
        self.assertEqual(sum_in(book, tuple(range(60)), 0, 1), 60 * GREATEST)


class TestPlain(SumsCase):
    def test_of_each_column(self):
        self.check_mended(PLAIN, 0, 1, 3 - 7 + 5, 4 + 0 + 5)
        self.check_mended(PLAIN, 0, 0, 100, 100)
        self.check_mended(PLAIN, 1, 1, 0, 60)
        self.check_mended(PLAIN, 1, 0, 1, 1)

    def test_a_table_without_rows(self):
        self.check_mended(PLAIN, 2, 0, 0, 0)

    def test_a_book_without_rows(self):
        book = book_of([(2, 1)], [], [])
        self.assertEqual(sums(book, 0, 0), (0, (), 0, ()))
        self.assertEqual(sums(book, 0, 1), (0, (), 0, ()))

    def test_a_good_book(self):
        book = book_of([(1, 1)], [], [(0, (3,)), (0, (-5,)), (0, ("a",))])
        self.assertEqual(sums(book, 0, 0), (-2, (0, 1, 2), -2, (0, 1, 2)))

    def test_one_mended_book_for_each(self):
        book = book_of([(2, 1)], [], [(0, (1, 2)), (0, (1, -3)), (0, (2, 9)), (0, (1, 8)), (0, (2, 4))])
        self.assertEqual(sums(book, 0, 1), (1, (1, 4), 17, (2, 3)))

    def test_names_between_numbers(self):
        book = book_of([(2, 1)], [], [(0, (1, 2)), (0, (1, "a")), (0, (2, -2)), (0, (2, "a"))])
        self.assertEqual(sums(book, 0, 1), (-2, (1, 2), 2, (0, 3)))

    def test_all_below_0(self):
        book = book_of([(1, 0)], [], [(0, (-2,)), (0, (-9,)), (0, (-1,))])
        self.assertEqual(sums(book, 0, 0), (-9, (1,), -1, (2,)))

    def test_the_key_is_summed_too(self):
        book = book_of([(2, 1)], [], [(0, (5, 1)), (0, (5, 2)), (0, (-7, 1))])
        self.check_mended(book, 0, 0, -2, -2)

    def test_very_many_mended_books(self):
        rows = [(0, (key, key * number)) for key in range(1, 21) for number in (-1, 0, 1)]
        book = book_of([(2, 1)], [], rows)
        self.assertEqual(many_by_blocks(book), 3 ** 20)
        one, other = self.check(book, 0, 1, -210, 210)
        self.assertEqual((one, other), (chosen(book, 0), chosen(book, 3 ** 20 - 1)))
        self.check(book, 0, 0, 210, 210)

    def test_sixteen_rows_that_clash(self):
        book = book_of([(1, 0)], [], [(0, (number,)) for number in range(16)])
        self.assertEqual(sums(book, 0, 0), (0, (0,), 15, (15,)))


class TestByGoingThrough(SumsCase):
    def test_like_a_plain_one(self):
        book = book_of(PLAIN[0], [NEVER], PLAIN[2])
        self.check_mended(book, 0, 1, 1, 9)
        self.check_mended(book, 0, 0, 100, 100)
        self.check_mended(book, 1, 1, 0, 60)
        self.check_mended(book, 2, 0, 0, 0)

    def test_rows_that_are_barred(self):
        below = ("never", 0, ((("cell", 0, 1), "less", ("is", 0)),))
        book = book_of(PLAIN[0], [below], PLAIN[2])
        self.check_mended(book, 0, 1, 8, 9)

    def test_rows_that_are_kept_apart(self):
        # 9 and 8 stand together, or 10 alone.
        apart = ("apart", 0, 0, ((("cell", 0, 0), "same", ("is", 10)),))
        book = book_of([(1, 1)], [apart], [(0, (9,)), (0, (10,)), (0, (8,))])
        self.assertEqual(sums(book, 0, 0), (10, (1,), 17, (0, 2)))
        low = book_of([(1, 1)], [apart], [(0, (-9,)), (0, (10,)), (0, (-8,))])
        self.assertEqual(sums(low, 0, 0), (-17, (0, 2), 10, (1,)))

    def test_rows_that_go_with_their_ties(self):
        # Row 0 stands with 2 alone, row 1 with 3; 2 and 3 have one key.
        tie = ("tie", 0, (1,), 1, (1,))
        rows = [(0, (5, "a")), (0, (7, "b")), (1, (0, "a")), (1, (0, "b"))]
        book = book_of([(2, 1), (2, 1)], [tie], rows)
        self.assertEqual(mended(book), [(0, 2), (1, 3)])
        self.assertEqual(sums(book, 0, 0), (5, (0, 2), 7, (1, 3)))

    def test_without_rows(self):
        self.assertEqual(sums(book_of([(2, 1)], [NEVER], []), 0, 1), (0, (), 0, ()))

    def test_a_book_of_which_nothing_is_left(self):
        book = book_of([(2, 1)], [NEVER], [(0, (5, "bad"))])
        self.assertEqual(sums(book, 0, 0), (0, (), 0, ()))

    def test_fifteen_rows_that_clash(self):
        rows = [(0, (key, 10 * key + number)) for key in range(5) for number in (-1, 0, 1)]
        self.check_mended(book_of([(2, 1)], [NEVER], rows), 0, 1, 95, 105)

    def test_sixteen_rows_and_more_that_clash(self):
        for many in (16, 17, 60):
            book = book_of([(2, 1)], [NEVER], [(0, (0, number)) for number in range(many)])
            for c in (0, 1):
                with self.assertRaises(TooWide) as caught:
                    sums(book, 0, c)
                self.assertEqual(caught.exception.number, many)


class TestNoPlace(unittest.TestCase):
    def check_refused(self, book, t, c):
        with self.subTest(book=book, t=t, c=c):
            for ask in (lambda: sums(book, t, c), lambda: sum_in(book, (), t, c), lambda: sum_in(book, (0,), t, c)):
                with self.assertRaises(NoPlace):
                    ask()

    def test_tables_and_columns_that_are_not_there(self):
        wide = book_of(PLAIN[0], [NEVER], [(0, (0, number)) for number in range(20)])
        for book in (PLAIN, book_of(PLAIN[0], [NEVER], PLAIN[2]), wide):
            for t in (-1, 3, 4, -3, 10 ** 40):
                for c in (0, 1, 7):
                    self.check_refused(book, t, c)
            for t, c in ((0, 2), (0, -1), (1, 2), (2, 1), (2, -1), (0, -2), (0, 10 ** 40)):
                self.check_refused(book, t, c)

    def test_without_rows(self):
        book = book_of([(2, 1)], [], [])
        for ask in (lambda: sums(book, 0, 2), lambda: sums(book, 1, 0), lambda: sum_in(book, (), 0, 2)):
            with self.assertRaises(NoPlace):
                ask()


class TestHandedIn(unittest.TestCase):
    def test_what_is_handed_in_stays(self):
        for rules in ([], [NEVER]):
            book = book_of(PLAIN[0], rules, PLAIN[2])
            before = copy.deepcopy(book)
            told = sums(book, 0, 1)
            sum_in(book, (0, 1), 0, 1)
            self.assertEqual(book, before)
            self.assertEqual(sums(book, 0, 1), told)


if __name__ == "__main__":
    unittest.main()
