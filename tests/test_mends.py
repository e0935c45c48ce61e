"""Mended books [2, 3, 11, 12]."""

import copy
import itertools
import math
import unittest

from mendsure.books import book_of
from mendsure.errors import NoPlace, TooWide
from mendsure.mends import is_mended, many_mended, mended, mended_at, mended_with


def blocks_book(*sizes, more=0):
    """A book of one table whose keys clash in blocks of these sizes, and of more rows that clash with none."""
    rows = [(0, (key, number)) for key, size in enumerate(sizes) for number in range(size)]
    return book_of([(2, 1)], [], rows + [(0, (100 + number, 0)) for number in range(more)])


def star_book(many):
    """A book in which row 0 may not stand together with any of many others."""
    tests = ((("cell", 0, 0), "same", ("is", 0)), (("cell", 1, 0), "unlike", ("is", 0)))
    return book_of([(1, 1)], [("apart", 0, 0, tests)], [(0, (number,)) for number in range(many + 1)])


# Row 1 may stand only with row 2; 0 and 1 clash, and so do 2 and 3. Of 1 and 3 only 3 is held, and 0 and 3 have it too.
LOSING = book_of(
    [(2, 1), (2, 1)],
    [("tie", 0, (1,), 1, (1,))],
    [(0, (0, "a")), (0, (0, "b")), (1, (0, "b")), (1, (0, "c")), (1, (1, "a"))],
)


class MendsCase(unittest.TestCase):
    def check(self, book, expected):
        """Everything that mends tells of a book whose mended books are these."""
        with self.subTest(book=book):
            told = mended(book)
            self.assertEqual(told, expected)
            self.assertIs(type(told), list)
            self.assertEqual([type(rows) for rows in told], [tuple] * len(expected))
            self.assertEqual(many_mended(book), len(expected))
            for number, rows in enumerate(expected):
                self.assertEqual(mended_at(book, number), rows)
                self.assertIs(is_mended(book, rows), True)
                self.assertEqual(mended_with(book, rows), rows)
            for number in (-1, -len(expected), len(expected), len(expected) + 1, 10 ** 40, -(10 ** 40)):
                with self.assertRaises(NoPlace):
                    mended_at(book, number)

    def check_too_wide(self, book, number):
        asked = (
            lambda: mended(book), lambda: many_mended(book),
            lambda: mended_at(book, 0), lambda: mended_at(book, -1), lambda: mended_at(book, 10 ** 9),
            lambda: is_mended(book, ()), lambda: is_mended(book, (0,)),
            lambda: mended_with(book, ()), lambda: mended_with(book, (0, 1)),
        )
        for ask in asked:
            with self.assertRaises(TooWide) as caught:
                ask()
            self.assertEqual(caught.exception.number, number)


class TestMended(MendsCase):
    def test_no_rows(self):
        self.check(book_of([(1, 0)], [], []), [()])

    def test_a_good_book_is_its_own_one(self):
        self.check(book_of([(1, 0)], [], [(0, (1,))]), [(0,)])
        self.check(blocks_book(1, 1, 1), [(0, 1, 2)])
        rules = [("tie", 0, (0,), 0, (1,)), ("apart", 0, 0, ((("cell", 0, 1), "less", ("cell", 1, 0)),))]
        self.check(book_of([(2, 2)], rules, [(0, (1, 2)), (0, (2, 1))]), [(0, 1)])

    def test_a_book_of_which_nothing_can_stand(self):
        never = ("never", 0, ((("is", 1), "same", ("is", 1)),))
        self.check(book_of([(1, 0)], [never], [(0, (1,)), (0, (2,))]), [()])
        self.check(book_of([(1, 1), (1, 1)], [("tie", 0, (0,), 1, (0,))], [(0, (1,)), (0, (2,))]), [()])

    def test_one_of_each_block(self):
        self.check(blocks_book(2), [(0,), (1,)])
        self.check(blocks_book(2, 1, 2), [(0, 2, 3), (0, 2, 4), (1, 2, 3), (1, 2, 4)])

    def test_key_0(self):
        self.check(book_of([(1, 0)], [], [(0, (5,)), (0, (4,)), (0, ("a",))]), [(0,), (1,), (2,)])

    def test_key_of_all_columns(self):
        self.check(book_of([(2, 2)], [], [(0, (5, 5)), (0, (5, 4)), (0, (4, 5))]), [(0, 1, 2)])

    def test_barred_rows_stand_in_none(self):
        rules = [("never", 0, ((("cell", 0, 1), "less", ("is", 1)),))]
        self.check(book_of([(2, 1)], rules, [(0, (1, 0)), (0, (1, 1)), (0, (1, 2))]), [(1,), (2,)])

    def test_rows_apart(self):
        self.check(star_book(3), [(0,), (1, 2, 3)])

    def test_a_path_of_clashes(self):
        tests = ((("cell", 0, 1), "same", ("cell", 1, 0)),)
        book = book_of([(2, 2)], [("apart", 0, 0, tests)], [(0, (number, number + 1)) for number in range(5)])
        self.check(book, [(0, 2, 4), (0, 3), (1, 3), (1, 4)])

    def test_rising_as_tuples(self):
        rows = [(0, (number, 0)) for number in range(9)] + [(0, (0, 1)), (0, (9, 0)), (0, (9, 1))]
        alone = tuple(range(1, 9))
        self.check(book_of([(2, 1)], [], rows), [
            (0,) + alone + (10,), (0,) + alone + (11,), alone + (9, 10), alone + (9, 11),
        ])

    def test_a_row_is_lost_with_the_one_that_it_is_tied_to(self):
        book = book_of([(1, 1), (2, 1)], [("tie", 0, (0,), 1, (1,))], [(0, ("a",)), (1, (1, "a")), (1, (1, "b"))])
        self.check(book, [(0, 1), (2,)])

    def test_a_row_tied_to_one_of_two_that_clash(self):
        book = book_of([(1, 1), (3, 1)], [("tie", 0, (0,), 1, (1,))],
                       [(0, ("a",)), (1, (1, "a", 1)), (1, (1, "a", 2))])
        self.check(book, [(0, 1), (0, 2)])

    def test_what_has_lost_so_much_that_another_has_it_all_is_none(self):
        self.check(LOSING, [(0, 2, 4), (0, 3, 4), (1, 2, 4)])
        self.assertIs(is_mended(LOSING, (3, 4)), False)

    def test_what_is_left_alike_is_told_once(self):
        # Rows 0 and 1 clash, and both go with row 2, so that it is all one which of them is taken out beside row 3.
        rows = [(0, (0, "a", 1)), (0, (0, "a", 2)), (1, (0, "a")), (1, (0, "b"))]
        self.check(book_of([(3, 1), (2, 1)], [("tie", 0, (1,), 1, (1,))], rows), [(0, 2), (1, 2), (3,)])


class TestAsked(MendsCase):
    def test_whether_a_set_is_one(self):
        book = blocks_book(2, 1, 2)
        told = mended(book)
        for many in range(6):
            for rows in itertools.combinations(range(5), many):
                self.assertIs(is_mended(book, rows), rows in told)

    def test_the_first_that_has_all_of_some_rows(self):
        book = blocks_book(2, 1, 2)
        for rows, expected in (
            ((), (0, 2, 3)), ((0,), (0, 2, 3)), ((1,), (1, 2, 3)), ((2,), (0, 2, 3)), ((4,), (0, 2, 4)),
            ((1, 4), (1, 2, 4)), ((0, 2, 4), (0, 2, 4)), ((0, 1), None), ((3, 4), None), ((0, 1, 2, 3, 4), None),
        ):
            with self.subTest(rows=rows):
                self.assertEqual(mended_with(book, rows), expected)

    def test_a_row_that_stands_in_none(self):
        book = book_of([(1, 1)], [("never", 0, ((("cell", 0, 0), "same", ("is", 0)),))], [(0, (0,)), (0, (1,))])
        self.assertIsNone(mended_with(book, (0,)))
        self.assertIsNone(mended_with(book, (0, 1)))
        self.assertEqual(mended_with(book, (1,)), (1,))

    def test_each_telling_is_its_own(self):
        book = blocks_book(2)
        told = mended(book)
        other = mended(book)
        told.append(())
        told[0] = None
        self.assertEqual(other, [(0,), (1,)])
        self.assertEqual(mended(book), [(0,), (1,)])
        self.assertEqual(many_mended(book), 2)

    def test_what_is_handed_in_stays(self):
        rows = (0, 2, 3)
        before = copy.deepcopy((LOSING, rows))
        mended(LOSING)
        many_mended(LOSING)
        mended_at(LOSING, 1)
        is_mended(LOSING, rows)
        mended_with(LOSING, rows)
        self.assertEqual((LOSING, rows), before)

    def test_a_book_of_lists_that_change_later(self):
        lists = [[(1, 0)], [], [(0, (1,)), (0, (2,))]]
        book = book_of(*lists)
        for some in lists:
            some.clear()
        self.assertEqual(mended(book), [(0,), (1,)])


class TestWidth(MendsCase):
    def test_fifteen_rows_that_clash(self):
        for sizes in ((15,), (3, 3, 3, 3, 3), (2, 2, 2, 2, 2, 2, 3), (7, 8)):
            for more in (0, 20):
                book = blocks_book(*sizes, more=more)
                starts = [sum(sizes[:place]) for place in range(len(sizes))]
                blocks = [range(start, start + size) for start, size in zip(starts, sizes)]
                alone = tuple(range(15, 15 + more))
                expected = [picked + alone for picked in itertools.product(*blocks)]
                self.assertEqual(mended(book), expected)
                self.assertEqual(many_mended(book), math.prod(sizes))

    def test_a_star_of_fifteen(self):
        self.check(star_book(14), [(0,), tuple(range(1, 15))])

    def test_sixteen_rows_that_clash(self):
        for sizes in ((16,), (2,) * 8, (3, 3, 3, 3, 4), (14, 2)):
            self.check_too_wide(blocks_book(*sizes), 16)
            self.check_too_wide(blocks_book(*sizes, more=20), 16)
        self.check_too_wide(star_book(15), 16)

    def test_more_rows_that_clash(self):
        self.check_too_wide(blocks_book(17), 17)
        self.check_too_wide(blocks_book(60), 60)
        self.check_too_wide(blocks_book(*(2,) * 30), 60)

    def test_sixty_rows_that_do_not_clash(self):
        self.check(book_of([(2, 1)], [], [(0, (number, 0)) for number in range(60)]), [tuple(range(60))])

    def test_rows_that_are_not_held_do_not_count(self):
        rules = [("never", 0, ((("cell", 0, 1), "less", ("is", 5)),))]
        rows = [(0, (0, number)) for number in range(20)]
        self.check(book_of([(2, 1)], rules, rows), [(number,) for number in range(5, 20)])
        self.check_too_wide(book_of([(2, 1)], rules, rows + [(0, (0, 20))]), 16)
        rules = [("tie", 0, (1,), 1, (0,))]
        served = [(1, (number,)) for number in range(15)]
        told = mended(book_of([(2, 1), (1, 1)], rules, rows + served))
        self.assertEqual(told, [(number,) + tuple(range(20, 35)) for number in range(15)])
        self.check_too_wide(book_of([(2, 1), (1, 1)], rules, rows + served + [(1, (15,))]), 16)


if __name__ == "__main__":
    unittest.main()
