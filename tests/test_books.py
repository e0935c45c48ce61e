"""How a book is made, and what is refused [2, 5, 6, 7, 8]."""

import copy
import unittest

from mendsure import errors
from mendsure.books import book_of

TABLES = [(2, 1), (3, 0), (1, 1)]
SAME = (("cell", 0, 0), "same", ("is", 7))
RULES = [
    ("never", 0, ((("cell", 0, 1), "less", ("is", 0)),)),
    ("apart", 0, 1, ((("cell", 0, 1), "unlike", ("cell", 1, 2)), (("is", "ann"), "same", ("cell", 1, 0)))),
    ("tie", 0, (0,), 1, (2,)),
]
ROWS = [(0, (1, "ann")), (0, (1, "bob")), (1, (1, 2, 3)), (2, (-5,))]


def many_rows(many):
    return [(0, (number, "a")) for number in range(many)]


class BookCase(unittest.TestCase):
    def check_made(self, tables, rules, rows):
        with self.subTest(tables=tables, rules=rules, rows=rows):
            self.assertEqual(book_of(tables, rules, rows), (tuple(tables), tuple(rules), tuple(rows)))

    def check_refused(self, name, place, tables, rules, rows):
        with self.subTest(tables=tables, rules=rules, rows=rows):
            with self.assertRaises(errors.MendError) as caught:
                book_of(tables, rules, rows)
            self.assertEqual(type(caught.exception).__name__, name)
            if place is not None:
                self.assertEqual(caught.exception.place, place)

    def check_table(self, table):
        self.check_made([table], [], [])

    def check_no_table(self, thing):
        self.check_refused("NoTable", 0, [thing], [], [])
        self.check_refused("NoTable", 1, [(1, 1), thing, (1, 1)], [], [])

    def check_rule(self, rule):
        self.check_made(TABLES, [rule], [])

    def check_no_rule(self, thing):
        self.check_refused("NoRule", 0, TABLES, [thing], [])
        self.check_refused("NoRule", 3, TABLES, RULES + [thing, RULES[0]], [])

    def check_row(self, row):
        self.check_made(TABLES, [], [row])

    def check_no_row(self, thing):
        self.check_refused("NoRow", 0, TABLES, [], [thing])
        self.check_refused("NoRow", 4, TABLES, RULES, ROWS + [thing])


class TestMade(BookCase):
    def test_of_lists_and_of_tuples(self):
        expected = (tuple(TABLES), tuple(RULES), tuple(ROWS))
        self.assertEqual(book_of(TABLES, RULES, ROWS), expected)
        self.assertEqual(book_of(*expected), expected)
        self.assertEqual(book_of(TABLES, tuple(RULES), ROWS), expected)

    def test_all_is_tuples(self):
        book = book_of(list(TABLES), list(RULES), list(ROWS))
        self.assertEqual([type(part) for part in (book,) + book], [tuple] * 4)

    def test_what_is_handed_in_stays_and_is_not_the_book(self):
        parts = [list(TABLES), list(RULES), list(ROWS)]
        before = copy.deepcopy(parts)
        book = book_of(*parts)
        self.assertEqual(parts, before)
        parts[0].append((1, 0))
        parts[1][0] = None
        parts[2].clear()
        self.assertEqual(book, tuple([tuple(part) for part in before]))

    def test_what_is_refused_stays(self):
        parts = [list(TABLES), list(RULES), ROWS + [ROWS[0]]]
        before = copy.deepcopy(parts)
        with self.assertRaises(errors.Twice):
            book_of(*parts)
        self.assertEqual(parts, before)

    def test_a_broken_book_is_a_book(self):
        self.check_made([(1, 0)], [("never", 0, (SAME,))], [(0, (7,)), (0, (8,))])


class TestBounds(BookCase):
    def test_tables(self):
        self.check_made([(1, 1)], [], [])
        self.check_made([(1, 1)] * 4, [], [])
        self.check_refused("TooGreat", None, [(1, 1)] * 5, [], [])
        self.check_refused("NoTable", 0, [], [], [])
        self.check_refused("NoTable", 0, (), (), ())

    def test_rules(self):
        self.check_made(TABLES, [RULES[0]] * 6, [])
        self.check_refused("TooGreat", None, TABLES, [RULES[0]] * 7, [])

    def test_rows(self):
        self.check_made(TABLES, [], many_rows(60))
        self.check_refused("TooGreat", None, TABLES, [], many_rows(61))


class TestTables(BookCase):
    def test_all_widths_and_keys(self):
        for wide in range(-1, 7):
            for key in range(-2, 8):
                if 1 <= wide <= 4 and 0 <= key <= wide:
                    self.check_table((wide, key))
                else:
                    self.check_no_table((wide, key))

    def test_truths(self):
        for table in ((True, 1), (True, 0), (1, True), (2, True), (1, False), (True, True), (True, False)):
            self.check_no_table(table)

    def test_other_things(self):
        things = [None, 0, 2, True, "", "ab", (), (2,), (2, 1, 0), (None, 1), (2, None), ("2", "1"), ("a", 0), (2, "a")]
        for thing in things + [((2,), 1), (2, (1,)), ((2, 1),), [2, 1], 10 ** 100, (10 ** 100, 0), (4, 10 ** 100)]:
            self.check_no_table(thing)


class TestNever(BookCase):
    def test_made(self):
        self.check_rule(("never", 0, (SAME,)))
        self.check_rule(("never", 2, (SAME, SAME, SAME)))
        self.check_rule(("never", 1, ((("cell", 0, 2), "unlike", ("cell", 0, 0)),)))

    def test_tables(self):
        for thing in (-1, 3, 4, None, "a", "0", (), (0,), True, False):
            self.check_no_rule(("never", thing, (SAME,)))

    def test_how_many_tests(self):
        self.check_no_rule(("never", 0, ()))
        self.check_no_rule(("never", 0, (SAME,) * 4))

    def test_no_cell_of_row_one(self):
        self.check_no_rule(("never", 0, ((("cell", 1, 0), "same", ("is", 7)),)))
        self.check_no_rule(("never", 0, ((("is", 7), "same", ("cell", 1, 0)),)))

    def test_other_things(self):
        for thing in (None, 0, True, "", "abc", SAME, [SAME], (SAME, None), (None,), ((),)):
            self.check_no_rule(("never", 0, thing))
        for thing in (("never",), ("never", 0), ("never", 0, (SAME,), 0), ("never", 0, 0, (SAME,))):
            self.check_no_rule(thing)


class TestApart(BookCase):
    def test_made(self):
        self.check_rule(("apart", 0, 0, (SAME,)))
        self.check_rule(("apart", 2, 1, (SAME, SAME, (("cell", 1, 2), "less", ("cell", 0, 0)))))

    def test_tables(self):
        for thing in (-1, 3, None, "a", (), True, False):
            self.check_no_rule(("apart", thing, 0, (SAME,)))
            self.check_no_rule(("apart", 0, thing, (SAME,)))

    def test_how_many_tests(self):
        self.check_no_rule(("apart", 0, 1, ()))
        self.check_no_rule(("apart", 0, 1, (SAME,) * 4))

    def test_columns_are_those_of_the_rows_own_table(self):
        for t, u in ((0, 1), (1, 0), (0, 2), (2, 0), (1, 2), (2, 2)):
            for column in range(-1, 5):
                for row, wide in ((0, TABLES[t][0]), (1, TABLES[u][0])):
                    cell = ("cell", row, column)
                    check = self.check_rule if 0 <= column < wide else self.check_no_rule
                    check(("apart", t, u, ((cell, "same", ("is", 1)),)))
                    check(("apart", t, u, ((("is", 1), "same", cell),)))

    def test_other_things(self):
        for thing in (("apart",), ("apart", 0), ("apart", 0, 1), ("apart", 0, (SAME,)), ("apart", 0, 1, (SAME,), 1)):
            self.check_no_rule(thing)


class TestTie(BookCase):
    def test_made(self):
        self.check_rule(("tie", 0, (0,), 0, (0,)))
        self.check_rule(("tie", 0, (1,), 1, (2,)))
        self.check_rule(("tie", 1, (2, 1, 0), 1, (0, 1, 2)))
        self.check_rule(("tie", 1, (0, 0), 0, (1, 1)))

    def test_tables(self):
        for thing in (-1, 3, None, "a", (), True, False):
            self.check_no_rule(("tie", thing, (0,), 0, (0,)))
            self.check_no_rule(("tie", 0, (0,), thing, (0,)))

    def test_how_many_columns(self):
        self.check_no_rule(("tie", 0, (), 1, ()))
        self.check_no_rule(("tie", 0, (0,) * 4, 1, (0,) * 4))
        self.check_no_rule(("tie", 1, (0, 1), 1, (0,)))
        self.check_no_rule(("tie", 1, (0,), 1, (0, 1)))
        self.check_no_rule(("tie", 1, (0,), 1, ()))

    def test_columns_are_those_of_their_table(self):
        for t in range(3):
            for u in range(3):
                for column in range(-1, 5):
                    check = self.check_rule if 0 <= column < TABLES[t][0] else self.check_no_rule
                    check(("tie", t, (column,), u, (0,)))
                    check = self.check_rule if 0 <= column < TABLES[u][0] else self.check_no_rule
                    check(("tie", t, (0,), u, (column,)))

    def test_a_later_column_counts_too(self):
        self.check_no_rule(("tie", 0, (0, 2), 1, (0, 2)))
        self.check_no_rule(("tie", 1, (0, 2), 0, (0, 2)))

    def test_other_things(self):
        for thing in (None, 0, True, "a", "", [0], (None,), ("a",), (True,), (False,), ((0,),)):
            self.check_no_rule(("tie", 0, thing, 1, (0,)))
            self.check_no_rule(("tie", 0, (0,), 1, thing))
        for thing in (("tie",), ("tie", 0, (0,), 1), ("tie", 0, (0,), 1, (0,), 0), ("tie", 0, 1, (0,), (0,))):
            self.check_no_rule(thing)


class TestRuleTests(BookCase):
    def rules_with(self, thing):
        return [("never", 0, (thing,)), ("apart", 0, 1, (thing,)), ("apart", 1, 0, (SAME, thing, SAME))]

    def check_test(self, thing):
        for rule in self.rules_with(thing):
            self.check_rule(rule)

    def check_no_test(self, thing):
        for rule in self.rules_with(thing):
            self.check_no_rule(rule)

    def check_no_side(self, thing):
        self.check_no_test((thing, "same", ("is", 1)))
        self.check_no_test((("is", 1), "same", thing))

    def test_words(self):
        for word in ("same", "unlike", "less"):
            self.check_test((("cell", 0, 0), word, ("is", 1)))
        for word in ("", "Same", "more", "is", None, 0, True, (), ("same",)):
            self.check_no_test((("cell", 0, 0), word, ("is", 1)))

    def test_sides_may_be_two_cells_or_two_values(self):
        for left in (("cell", 0, 0), ("is", "ann")):
            for right in (("cell", 0, 1), ("is", -4)):
                self.check_test((left, "less", right))

    def test_values(self):
        for value in (0, -1, 10 ** 30 - 1, 1 - 10 ** 30, "a", "abcdefgh"):
            self.check_test((("is", value), "same", ("cell", 0, 0)))
        for thing in (10 ** 30, -(10 ** 30), "", "abcdefghi", "A", None, True, False, (), (1,)):
            self.check_no_side(("is", thing))

    def test_cells(self):
        for row in (-1, 2, None, True, False, "a", "0", ()):
            self.check_no_side(("cell", row, 0))
        for column in (-1, 4, None, True, False, "a", "0", ()):
            self.check_no_side(("cell", 0, column))

    def test_sides_that_are_none(self):
        for thing in (None, 0, True, "", "is", "cell", (), ("is",), ("cell",), ("cell", 0), ("is", 1, 1), ("is", 0, 0)):
            self.check_no_side(thing)
        for thing in (("cell", 0, 0, 0), ("at", 0, 0), ("value", 1), (0, 0, 0), (None, 1), ["is", 1], ["cell", 0, 0]):
            self.check_no_side(thing)

    def test_tests_that_are_none(self):
        left = ("cell", 0, 0)
        for thing in (None, 0, True, "", "abc", (), (left,), (left, "same"), (left, "same", left, left), (SAME,)):
            self.check_no_test(thing)
        self.check_no_test([left, "same", left])

    def test_the_form_of_a_rule_under_another_word(self):
        forms = (("never", 0, (SAME,)), ("apart", 0, 1, (SAME,)), ("tie", 0, (0,), 1, (0,)))
        for form in forms:
            for word in ("never", "apart", "tie", "", "key", "Tie", "same", None, 0, True, ()):
                check = self.check_rule if word == form[0] else self.check_no_rule
                check((word,) + form[1:])

    def test_rules_that_are_none(self):
        for thing in (("",), ("key", 0, (SAME,)), ("Never", 0, (SAME,)), ("nevertie", 0, (SAME,)), ("is", 1)):
            self.check_no_rule(thing)
        for thing in (None, 0, True, "", "never", (), (None,), (0,), (True, 0, (SAME,)), ["never", 0, (SAME,)]):
            self.check_no_rule(thing)


class TestRows(BookCase):
    def test_made(self):
        for row in ((0, (1, "a")), (1, ("a", "a", "a")), (2, (10 ** 30 - 1,)), (2, ("abcdefgh",))):
            self.check_row(row)

    def test_tables(self):
        for thing in (-1, 3, None, "a", (), True, False):
            self.check_no_row((thing, (1, 2)))
            self.check_no_row((thing, (1, 2, 3)))

    def test_how_many_cells(self):
        for t in range(3):
            for many in range(6):
                check = self.check_row if many == TABLES[t][0] else self.check_no_row
                check((t, tuple(range(many))))

    def test_cells_that_are_no_values(self):
        for thing in (10 ** 30, -(10 ** 30), "", "abcdefghi", "A", "a1", None, True, False, (), (1,)):
            self.check_no_row((0, (thing, 1)))
            self.check_no_row((0, (1, thing)))

    def test_other_things(self):
        things = [None, 0, True, "", "ab", (), (0,), (0, 1), (0, "ab"), (0, None), (0, (1, 2), 0), ((1, 2), 0), (1, 2)]
        for thing in things + [((0, (1, 2)),), (0, 1, 2), [0, (1, 2)], (0, [1, 2])]:
            self.check_no_row(thing)

    def test_the_first_one_is_told(self):
        self.check_refused("NoRow", 1, TABLES, [], [ROWS[0], None, ROWS[1], None])

    def test_twice(self):
        self.check_refused("Twice", 1, TABLES, [], [ROWS[0], ROWS[0]])
        self.check_refused("Twice", 4, TABLES, [], ROWS + [ROWS[3], ROWS[0], ROWS[1]])
        self.check_refused("Twice", 3, TABLES, [], [ROWS[0], ROWS[1], ROWS[2], ROWS[1], ROWS[0]])
        self.check_refused("Twice", 59, TABLES, [], many_rows(59) + [(0, (30, "a"))])

    def test_same_cells_in_two_tables_are_two_rows(self):
        self.check_made([(1, 1), (1, 1)], [], [(0, (1,)), (1, (1,))])


class TestWhichIsFirst(BookCase):
    NO_RULE = ("never", 9, ())
    NO_ROW = (0, ())

    def test_too_great_is_ahead_of_all(self):
        self.check_refused("TooGreat", None, [None] * 5, [self.NO_RULE], [self.NO_ROW])
        self.check_refused("TooGreat", None, [None], [self.NO_RULE] * 7, [self.NO_ROW])
        self.check_refused("TooGreat", None, [None], [self.NO_RULE], [self.NO_ROW] * 61)
        self.check_refused("TooGreat", None, [], [RULES[0]] * 7, [])
        self.check_refused("TooGreat", None, TABLES, [], [ROWS[0]] * 61)

    def test_no_table_is_ahead_of_no_rule(self):
        self.check_refused("NoTable", 3, TABLES + [(0, 0)], [self.NO_RULE], [self.NO_ROW])
        self.check_refused("NoTable", 0, [], [self.NO_RULE], [self.NO_ROW])

    def test_no_rule_is_ahead_of_no_row(self):
        self.check_refused("NoRule", 3, TABLES, RULES + [self.NO_RULE, self.NO_RULE], [self.NO_ROW])
        self.check_refused("NoRule", 0, TABLES, [self.NO_RULE], ROWS + ROWS)

    def test_no_row_is_ahead_of_twice(self):
        self.check_refused("NoRow", 8, TABLES, RULES, ROWS + ROWS + [self.NO_ROW])

    def test_the_first_of_several_places(self):
        self.check_refused("NoTable", 1, [(1, 1), None, (2, 3), None], [], [])
        self.check_refused("NoRule", 1, TABLES, [RULES[0], self.NO_RULE, RULES[1], self.NO_RULE], [])


if __name__ == "__main__":
    unittest.main()
