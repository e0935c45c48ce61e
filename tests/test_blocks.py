"""Plain books, their blocks, and their mended books by number [2, 19]."""

import copy
import itertools
import math
import unittest

from mendsure.blocks import blocks, chosen, is_plain, many_by_blocks
from mendsure.books import book_of
from mendsure.errors import NoPlace, NotPlain
from mendsure.mends import is_mended

NEVER = ("never", 0, ((("cell", 0, 0), "less", ("is", 0)),))
APART = ("apart", 0, 0, ((("cell", 0, 0), "less", ("cell", 1, 0)),))
TIE = ("tie", 0, (0,), 0, (0,))


def sized_book(*sizes):
    """A plain book of one table, with blocks of these sizes one behind the other."""
    return book_of([(2, 1)], [], [(0, (key, number)) for key, size in enumerate(sizes) for number in range(size)])


class BlocksCase(unittest.TestCase):
    def check(self, book, expected):
        """All that is told of a plain book with these blocks."""
        with self.subTest(book=book):
            self.assertIs(is_plain(book), True)
            told = blocks(book)
            self.assertEqual(told, expected)
            self.assertEqual([type(part) for part in [told] + told], [list] * (len(expected) + 1))
            many = math.prod([len(block) for block in expected])
            self.assertEqual(many_by_blocks(book), many)
            picked = [tuple(sorted(rows)) for rows in itertools.product(*expected)]
            self.assertEqual([chosen(book, number) for number in range(many)], picked)
            for number in (-1, -many, many, many + 1, 10 ** 100, -(10 ** 100)):
                with self.assertRaises(NoPlace):
                    chosen(book, number)


class TestBlocks(BlocksCase):
    def test_one_block(self):
        self.check(sized_book(1), [[0]])
        self.check(sized_book(3), [[0, 1, 2]])

    def test_several_blocks(self):
        self.check(sized_book(1, 1), [[0], [1]])
        self.check(sized_book(2, 1, 3), [[0, 1], [2], [3, 4, 5]])

    def test_by_their_first_rows(self):
        keys = ["b", 7, "a", "b", -1, 7, "b"]
        book = book_of([(2, 1)], [], [(0, (key, number)) for number, key in enumerate(keys)])
        self.check(book, [[0, 3, 6], [1, 5], [2], [4]])

    def test_the_last_block_is_gone_through_first(self):
        book = sized_book(2, 3)
        told = [chosen(book, number) for number in range(6)]
        self.assertEqual(told, [(0, 2), (0, 3), (0, 4), (1, 2), (1, 3), (1, 4)])

    def test_blocks_that_lie_within_one_another(self):
        book = book_of([(2, 1)], [], [(0, (key, number)) for number, key in enumerate([1, 2, 2, 1])])
        self.assertEqual(blocks(book), [[0, 3], [1, 2]])
        self.assertEqual([chosen(book, number) for number in range(4)], [(0, 1), (0, 2), (1, 3), (2, 3)])
        self.check(book, [[0, 3], [1, 2]])

    def test_number_0_has_each_first_row(self):
        keys = [5, 4, 5, 3, 4, 3, 2]
        book = book_of([(2, 1)], [], [(0, (key, number)) for number, key in enumerate(keys)])
        self.assertEqual(chosen(book, 0), (0, 1, 3, 6))

    def test_several_tables(self):
        rows = [(1, (1, 2)), (0, (1, 2)), (0, (1, 3)), (1, (1, 3)), (0, (2, 3)), (1, (1, 4))]
        self.check(book_of([(2, 1), (2, 1)], [], rows), [[0, 3, 5], [1, 2], [4]])

    def test_keys_of_width_0(self):
        rows = [(0, (7,)), (1, (7,)), (0, ("a",)), (1, (8,)), (0, (-1,)), (2, (7,))]
        self.check(book_of([(1, 0), (1, 1), (1, 0)], [], rows), [[0, 2, 4], [1], [3], [5]])

    def test_keys_of_all_widths(self):
        cells = list(itertools.product((0, 1), repeat=4))
        rows = [(0, some) for some in cells]
        for key in range(5):
            size = 2 ** (4 - key)
            expected = [list(range(start, start + size)) for start in range(0, 16, size)]
            book = book_of([(4, key)], [], rows)
            self.assertEqual(blocks(book), expected)
            self.assertEqual(many_by_blocks(book), size ** (2 ** key))

    def test_keys_of_two_cells(self):
        rows = [(0, (1, "a", 1)), (0, ("a", 1, 1)), (0, (1, "a", 2)), (0, (1, "b", 1)), (0, ("a", 1, 2))]
        self.check(book_of([(3, 2)], [], rows), [[0, 2], [1, 4], [3]])

    def test_without_rows(self):
        book = book_of([(2, 1), (1, 0)], [], [])
        self.check(book, [])
        self.assertEqual(many_by_blocks(book), 1)
        self.assertEqual(chosen(book, 0), ())

    def test_far_too_many_to_go_through(self):
        book = sized_book(*(3,) * 20)
        self.assertEqual(many_by_blocks(book), 3 ** 20)
        self.assertEqual(chosen(book, 0), tuple(range(0, 60, 3)))
        self.assertEqual(chosen(book, 1), tuple(range(0, 57, 3)) + (58,))
        self.assertEqual(chosen(book, 3), tuple(range(0, 54, 3)) + (55, 57))
        self.assertEqual(chosen(book, 3 ** 19), (1,) + tuple(range(3, 60, 3)))
        self.assertEqual(chosen(book, 3 ** 20 - 1), tuple(range(2, 60, 3)))
        for number in (3 ** 20, -1, -(3 ** 20)):
            with self.assertRaises(NoPlace):
                chosen(book, number)
        self.assertEqual(many_by_blocks(sized_book(*(2,) * 30)), 2 ** 30)
        self.assertEqual(many_by_blocks(sized_book(60)), 60)
        self.assertEqual(many_by_blocks(sized_book(*(1,) * 60)), 1)

    def test_each_chosen_one_is_a_mended_book(self):
        book = sized_book(3, 2, 4, 1)
        told = {chosen(book, number): True for number in range(24)}
        self.assertEqual(len(told), 24)
        self.assertTrue(all(is_mended(book, rows) for rows in told))


class TestNotPlain(unittest.TestCase):
    def test_books_with_rules(self):
        for rules in ([NEVER], [APART], [TIE], [TIE] * 6, [NEVER, APART, TIE]):
            for rows in ([], [(0, (1, 1))], [(0, (1, number)) for number in range(20)]):
                book = book_of([(2, 1)], rules, rows)
                self.assertIs(is_plain(book), False)
                asked = [lambda: blocks(book), lambda: many_by_blocks(book)]
                asked.extend([lambda number=number: chosen(book, number) for number in (0, -1, 10 ** 9)])
                for ask in asked:
                    with self.assertRaises(NotPlain):
                        ask()


class TestHandedIn(unittest.TestCase):
    def test_what_is_handed_in_stays(self):
        book = sized_book(2, 3)
        before = copy.deepcopy(book)
        for ask in (is_plain, blocks, many_by_blocks):
            ask(book)
        chosen(book, 4)
        self.assertEqual(book, before)

    def test_each_telling_is_its_own(self):
        book = sized_book(2, 1)
        told = blocks(book)
        other = blocks(book)
        told[0].append(9)
        told[1].clear()
        told.append([])
        self.assertEqual(other, [[0, 1], [2]])
        self.assertEqual(blocks(book), [[0, 1], [2]])
        self.assertEqual(many_by_blocks(book), 2)
        self.assertEqual(chosen(book, 1), (1, 2))


if __name__ == "__main__":
    unittest.main()
