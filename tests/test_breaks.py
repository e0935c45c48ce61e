"""Breaks, good sets, held rows and rows that clash [2, 10]."""

import copy
import unittest

from mendsure.books import book_of
from mendsure.breaks import breaks, clashes, good, held

ANY = (("is", 1), "same", ("is", 1))
BELOW_NOUGHT = ("never", 0, ((("cell", 0, 1), "less", ("is", 0)),))
UNLIKE = ("apart", 0, 1, ((("cell", 0, 0), "same", ("cell", 1, 0)), (("cell", 0, 1), "unlike", ("cell", 1, 1))))
LESS = ("apart", 0, 0, ((("cell", 0, 1), "less", ("cell", 1, 1)),))
TIED = ("tie", 0, (0,), 1, (0,))
MIXED = book_of(
    [(2, 1), (2, 0)],
    [BELOW_NOUGHT, UNLIKE, TIED, LESS],
    [(0, ("b", 3)), (1, ("a", 3)), (0, ("a", -1)), (1, ("b", 4)), (0, ("a", "x")), (0, ("c", 3)), (0, ("b", 5))],
)


def chain(many):
    """A book in which row 0 is tied to nothing that is there, and each next row to the one ahead."""
    return book_of([(2, 2)], [("tie", 0, (0,), 0, (1,))], [(0, (number - 1, number)) for number in range(many)])


class TestBreaks(unittest.TestCase):
    def check(self, book, rows, expected):
        with self.subTest(book=book, rows=rows):
            told = breaks(book, rows)
            self.assertEqual(told, expected)
            self.assertIs(type(told), list)
            self.assertEqual([type(one) for one in told], [tuple] * len(expected))
            self.assertIs(good(book, rows), expected == [])

    def test_no_rows(self):
        self.check(book_of([(1, 0)], [], []), (), [])
        self.check(MIXED, (), [])

    def test_all_kinds_sorted(self):
        self.check(MIXED, tuple(range(7)), [
            ("apart", 0, 2, 3), ("apart", 0, 3, 1), ("apart", 0, 6, 3), ("apart", 1, 2, 1), ("apart", 1, 4, 1),
            ("apart", 2, 5, 3), ("apart", 2, 6, 3), ("apart", 3, 6, 1), ("apart", 5, 6, 3),
            ("key", 0, 6), ("key", 1, 3), ("key", 2, 4),
            ("never", 2, 0),
            ("tie", 5, 2),
        ])

    def test_only_what_the_set_breaks(self):
        self.check(MIXED, (0, 2), [("apart", 0, 2, 3), ("never", 2, 0), ("tie", 0, 2), ("tie", 2, 2)])
        self.check(MIXED, (0, 3), [("apart", 0, 3, 1)])
        self.check(MIXED, (1,), [])
        self.check(MIXED, (4,), [("tie", 4, 2)])

    def test_numbers_go_as_numbers(self):
        book = book_of([(1, 1)], [("never", 0, (ANY,))], [(0, (number,)) for number in range(12)])
        self.check(book, tuple(range(12)), [("never", number, 0) for number in range(12)])

    def test_keys_of_each_width(self):
        rows = [(0, (1, 1, 1, 1)), (0, (1, 1, 1, 2)), (0, (1, 1, 2, 1)), (0, (1, 2, 1, 1)), (0, (2, 1, 1, 1))]
        pairs = [("key", i, j) for i in range(5) for j in range(i + 1, 5)]
        for key, expected in (
            (0, pairs),
            (1, [pair for pair in pairs if pair[2] < 4]),
            (2, [pair for pair in pairs if pair[2] < 3]),
            (3, [("key", 0, 1)]),
            (4, []),
        ):
            self.check(book_of([(4, key)], [], rows), (0, 1, 2, 3, 4), expected)

    def test_a_key_is_of_one_table(self):
        book = book_of([(1, 0), (1, 0), (2, 1), (2, 1)], [], [(0, (1,)), (1, (1,)), (2, (1, 1)), (3, (1, 2))])
        self.check(book, (0, 1, 2, 3), [])

    def test_the_key_is_the_first_cells(self):
        book = book_of([(2, 1)], [], [(0, (1, 7)), (0, (2, 7)), (0, (1, 8))])
        self.check(book, (0, 1, 2), [("key", 0, 2)])

    def test_rows_apart_either_one_as_row_0(self):
        for rows in ([(0, (1, 1)), (0, (2, 2))], [(0, (2, 2)), (0, (1, 1))]):
            self.check(book_of([(2, 2)], [LESS], rows), (0, 1), [("apart", 0, 1, 0)])

    def test_apart_both_ways_about_is_one_break(self):
        book = book_of([(1, 1)], [("apart", 0, 0, (ANY,))], [(0, (1,)), (0, (2,)), (0, (3,))])
        self.check(book, (0, 1, 2), [("apart", 0, 1, 0), ("apart", 0, 2, 0), ("apart", 1, 2, 0)])

    def test_no_row_is_apart_from_itself(self):
        self.check(book_of([(1, 1)], [("apart", 0, 0, (ANY,))], [(0, (1,))]), (0,), [])

    def test_each_rule_has_its_own_break(self):
        never, apart = ("never", 0, (ANY,)), ("apart", 0, 0, (ANY,))
        book = book_of([(1, 0)], [never, apart, never, apart], [(0, (1,)), (0, (2,))])
        self.check(book, (0, 1), [
            ("apart", 0, 1, 1), ("apart", 0, 1, 3), ("key", 0, 1),
            ("never", 0, 0), ("never", 0, 2), ("never", 1, 0), ("never", 1, 2),
        ])

    def test_a_tie_to_the_row_itself(self):
        book = book_of([(2, 2)], [("tie", 0, (0,), 0, (1,))], [(0, (1, 1)), (0, (1, 2)), (0, (2, 3))])
        self.check(book, (0,), [])
        self.check(book, (0, 1), [])
        self.check(book, (1,), [("tie", 1, 0)])
        self.check(book, (0, 1, 2), [])
        self.check(book, (0, 2), [("tie", 2, 0)])

    def test_each_telling_is_its_own(self):
        told = breaks(MIXED, (0, 3))
        told.append(("key", 0, 1))
        self.assertEqual(breaks(MIXED, (0, 3)), [("apart", 0, 3, 1)])


class TestHeld(unittest.TestCase):
    def check(self, book, rows, expected):
        with self.subTest(book=book, rows=rows):
            told = held(book, rows)
            self.assertEqual(told, expected)
            self.assertIs(type(told), tuple)

    def test_without_rules_all_are_held(self):
        book = book_of([(1, 0)], [], [(0, (1,)), (0, (2,))])
        for rows in ((), (0,), (1,), (0, 1)):
            self.check(book, rows, rows)

    def test_barred_rows_and_rows_without_ties_go(self):
        self.check(MIXED, tuple(range(7)), (0, 1, 3, 4, 6))
        self.check(MIXED, (0, 1, 2, 5, 6), (1,))
        self.check(MIXED, (2,), ())

    def test_rows_that_may_not_stand_together_are_held(self):
        self.check(MIXED, (0, 3, 6), (0, 3, 6))

    def test_a_row_that_goes_takes_those_it_served(self):
        for many in (1, 2, 13):
            book = chain(many)
            self.check(book, tuple(range(many)), ())
        book = book_of([(2, 2)], [("tie", 0, (0,), 0, (1,))], [(0, (number, number + 1)) for number in range(13)])
        self.check(book, tuple(range(13)), ())

    def test_a_ring_of_ties_is_held(self):
        rows = [(0, (0, 1)), (0, (1, 2)), (0, (2, 0)), (0, (5, 6))]
        book = book_of([(2, 2)], [("tie", 0, (0,), 0, (1,))], rows)
        self.check(book, (0, 1, 2, 3), (0, 1, 2))
        self.check(book, (0, 1, 3), ())

    def test_one_row_that_serves_is_enough(self):
        book = book_of([(1, 1), (2, 2)], [("tie", 0, (0,), 1, (0,))], [(0, (1,)), (1, (1, 1)), (1, (1, 2))])
        self.check(book, (0, 1, 2), (0, 1, 2))
        self.check(book, (0, 1), (0, 1))
        self.check(book, (0, 2), (0, 2))
        self.check(book, (0,), ())

    def test_a_barred_row_serves_no_tie(self):
        rules = [("tie", 0, (0,), 1, (0,)), ("never", 1, ((("cell", 0, 0), "same", ("is", 1)),))]
        book = book_of([(1, 1), (1, 1)], rules, [(0, (1,)), (0, (2,)), (1, (1,)), (1, (2,))])
        self.check(book, (0, 1, 2, 3), (1, 3))

    def test_all_ties_of_a_row_count(self):
        rules = [("tie", 0, (0,), 1, (0,)), ("tie", 0, (1,), 2, (0,))]
        book = book_of([(2, 2), (1, 1), (1, 1)], rules, [(0, (1, 2)), (1, (1,)), (2, (2,))])
        self.check(book, (0, 1, 2), (0, 1, 2))
        self.check(book, (0, 1), (1,))
        self.check(book, (0, 2), (2,))
        self.check(book, (0,), ())

    def test_sixty_rows(self):
        self.check(chain(60), tuple(range(60)), ())


class TestClashes(unittest.TestCase):
    def check(self, book, expected):
        with self.subTest(book=book):
            told = clashes(book)
            self.assertEqual(told, expected)
            self.assertIs(type(told), list)

    def test_nothing(self):
        self.check(book_of([(1, 0)], [], []), [])
        self.check(book_of([(1, 1)], [], [(0, (1,)), (0, (2,))]), [])

    def test_keys_and_aparts_of_held_rows(self):
        self.check(MIXED, [(0, 3), (0, 6), (1, 3), (1, 4), (3, 6)])

    def test_a_pair_that_breaks_several_is_told_once(self):
        apart = ("apart", 0, 0, (ANY,))
        book = book_of([(1, 0)], [apart, apart], [(0, (1,)), (0, (2,))])
        self.check(book, [(0, 1)])

    def test_barred_and_untied_rows_clash_with_none(self):
        rules = [("never", 0, ((("cell", 0, 0), "same", ("is", 1)),)), ("tie", 0, (0,), 1, (0,))]
        book = book_of([(1, 0), (1, 1)], rules, [(0, (1,)), (0, (2,)), (0, (3,)), (0, (4,)), (1, (2,)), (1, (3,))])
        self.check(book, [(1, 2)])

    def test_ties_alone_are_no_clash(self):
        self.check(chain(5), [])

    def test_numbers_go_as_numbers(self):
        book = book_of([(1, 0)], [], [(0, (number,)) for number in range(12)])
        self.check(book, [(i, j) for i in range(12) for j in range(i + 1, 12)])

    def test_each_telling_is_its_own(self):
        told = clashes(MIXED)
        told.clear()
        self.assertEqual(len(clashes(MIXED)), 5)


class TestWhatIsHandedIn(unittest.TestCase):
    def test_it_stays(self):
        rows = (0, 1, 2, 3, 4, 5, 6)
        before = copy.deepcopy((MIXED, rows))
        for ask in (breaks, good, held):
            ask(MIXED, rows)
        clashes(MIXED)
        self.assertEqual((MIXED, rows), before)

    def test_a_book_of_lists_that_change_later(self):
        lists = [[(1, 0)], [("never", 0, (ANY,))], [(0, (1,)), (0, (2,))]]
        book = book_of(*lists)
        expected = breaks(book, (0, 1))
        for some in lists:
            some.clear()
        self.assertEqual(breaks(book, (0, 1)), expected)


if __name__ == "__main__":
    unittest.main()
