"""What a test and a rule tell of rows [6, 7, 10]."""

import copy
import itertools
import unittest

from mendsure.rules import Apart, Never, Rule, Tie, rule_of

GREATEST = int("9" * 30)
VALUES = [-GREATEST, -2, 0, 1, 10, GREATEST, "a", "ab", "b"]


def holds(word, left, right):
    """A word of a test, as point 6 says it."""
    if word == "same":
        return left == right
    if word == "unlike":
        return not left == right
    return type(left) is int and type(right) is int and left < right


class RuleCase(unittest.TestCase):
    def check(self, told, expected):
        self.assertIs(told, expected)

    def check_never(self, tests, cells, expected):
        with self.subTest(tests=tests, cells=cells):
            self.check(rule_of(("never", 1, tests)).bars((1, cells)), expected)

    def check_apart(self, parts, row, other, expected):
        with self.subTest(parts=parts, row=row, other=other):
            self.check(rule_of(parts).parts_them(row, other), expected)
            self.check(rule_of(parts).parts_them(other, row), expected)

    def check_tie(self, parts, row, rows, expected):
        with self.subTest(parts=parts, row=row, rows=rows):
            self.check(rule_of(parts).lacks(row, rows), expected)


class TestKinds(RuleCase):
    NEVER = ("never", 0, ((("is", 1), "same", ("is", 1)),))
    APART = ("apart", 0, 0, ((("is", 1), "same", ("is", 1)),))
    TIE = ("tie", 0, (0,), 0, (1,))

    def test_the_class_that_the_word_tells(self):
        for parts, kind in ((self.NEVER, Never), (self.APART, Apart), (self.TIE, Tie)):
            self.assertIs(type(rule_of(parts)), kind)
            self.assertEqual(kind.__bases__, (Rule,))

    def test_each_kind_has_its_say_in_its_own_method_alone(self):
        row, other = (0, (1, 2)), (0, (3, 4))
        for rule, expected in (
            (rule_of(self.NEVER), (True, False, False)),
            (rule_of(self.APART), (False, True, False)),
            (rule_of(self.TIE), (False, False, True)),
            (Never(self.NEVER), (True, False, False)),
            (Apart(self.APART), (False, True, False)),
            (Tie(self.TIE), (False, False, True)),
        ):
            told = (rule.bars(row), rule.parts_them(row, other), rule.lacks(row, [row, other]))
            self.assertEqual(told, expected)
            self.assertEqual([type(one) for one in told], [bool] * 3)

    def test_a_rule_itself_tells_false(self):
        for parts in (self.NEVER, self.APART, self.TIE):
            rule = Rule(parts)
            self.check(rule.bars((0, (1, 2))), False)
            self.check(rule.parts_them((0, (1, 2)), (0, (3, 4))), False)
            self.check(rule.lacks((0, (1, 2)), []), False)


class TestWords(RuleCase):
    def test_each_word_of_two_cells(self):
        for word, left, right in itertools.product(("same", "unlike", "less"), VALUES, VALUES):
            expected = holds(word, left, right)
            self.check_never(((("cell", 0, 0), word, ("cell", 0, 1)),), (left, right), expected)
            self.check_never(((("cell", 0, 1), word, ("cell", 0, 0)),), (right, left), expected)

    def test_each_word_of_a_cell_and_a_value(self):
        for word, left, right in itertools.product(("same", "unlike", "less"), VALUES, VALUES):
            expected = holds(word, left, right)
            self.check_never(((("cell", 0, 1), word, ("is", right)),), ("z", left), expected)
            self.check_never(((("is", left), word, ("cell", 0, 1)),), ("z", right), expected)
            self.check_never(((("is", left), word, ("is", right)),), ("z", "z"), expected)

    def test_each_word_of_cells_of_two_rows(self):
        for word, left, right in itertools.product(("same", "unlike", "less"), VALUES, VALUES):
            parts = ("apart", 0, 1, ((("cell", 0, 1), word, ("cell", 1, 0)),))
            self.check_apart(parts, (0, ("z", left)), (1, (right,)), holds(word, left, right))
            parts = ("apart", 0, 1, ((("cell", 1, 0), word, ("cell", 0, 1)),))
            self.check_apart(parts, (0, ("z", left)), (1, (right,)), holds(word, right, left))

    def test_less_is_of_numbers_alone(self):
        less = ((("cell", 0, 0), "less", ("cell", 0, 1)),)
        for cells, expected in (((9, 10), True), ((10, 9), False), ((9, 9), False), (("a", "b"), False)):
            self.check_never(less, cells, expected)
        for cells in ((1, "a"), ("a", 1), ("a", "a")):
            self.check_never(less, cells, False)


class TestNever(RuleCase):
    def test_all_tests_must_hold(self):
        tests = tuple([(("cell", 0, column), "same", ("is", 1)) for column in range(3)])
        for cells in itertools.product((0, 1), repeat=3):
            for many in (1, 2, 3):
                self.check_never(tests[:many], cells, 0 not in cells[:many])

    def test_rows_of_other_tables_stand(self):
        rule = rule_of(("never", 1, ((("is", 1), "same", ("is", 1)),)))
        self.assertEqual([rule.bars((t, (1,))) for t in range(4)], [False, True, False, False])


class TestApart(RuleCase):
    LESS = ("apart", 0, 0, ((("cell", 0, 0), "less", ("cell", 1, 0)),))
    FIRST = ("apart", 0, 0, ((("cell", 0, 0), "same", ("is", 1)), (("cell", 1, 0), "same", ("is", 2))))

    def test_one_table_either_way_about(self):
        self.check_apart(self.LESS, (0, (1,)), (0, (2,)), True)
        self.check_apart(self.LESS, (0, (1,)), (0, ("a",)), False)
        self.check_apart(self.FIRST, (0, (1,)), (0, (2,)), True)
        self.check_apart(self.FIRST, (0, (1,)), (0, (3,)), False)
        self.check_apart(self.FIRST, (0, (2,)), (0, (3,)), False)

    def test_no_way_about_is_made_of_both(self):
        # Each test holds one way about, but never both in the same one.
        tests = ((("cell", 0, 0), "same", ("is", 1)), (("cell", 1, 1), "same", ("is", 5)))
        self.check_apart(("apart", 0, 0, tests), (0, (1, 5)), (0, (2, 6)), False)
        self.check_apart(("apart", 0, 0, tests), (0, (1, 6)), (0, (2, 5)), True)

    def test_two_tables(self):
        parts = ("apart", 2, 1, ((("cell", 0, 0), "less", ("cell", 1, 1)),))
        self.check_apart(parts, (2, (3,)), (1, ("a", 4)), True)
        self.check_apart(parts, (2, (4,)), (1, ("a", 4)), False)
        for t, u in itertools.product(range(3), repeat=2):
            self.check_apart(parts, (t, (3, 3)), (u, (4, 4)), (t, u) == (2, 1))

    def test_all_tests_must_hold(self):
        tests = tuple([(("cell", 0, column), "same", ("cell", 1, column)) for column in range(3)])
        for cells in itertools.product((0, 1), repeat=3):
            for many in (1, 2, 3):
                parts = ("apart", 0, 1, tests[:many])
                self.check_apart(parts, (0, (1, 1, 1)), (1, cells), 0 not in cells[:many])


class TestTie(RuleCase):
    def test_to_another_table(self):
        parts = ("tie", 0, (1,), 1, (0,))
        row = (0, ("a", 7))
        self.check_tie(parts, row, [], True)
        self.check_tie(parts, row, [(1, (7, 0))], False)
        self.check_tie(parts, row, [(1, (0, 7))], True)
        self.check_tie(parts, row, [(1, (8, 0)), (1, (7, "x"))], False)
        self.check_tie(parts, row, [(0, (7, 0)), (2, (7, 0)), row], True)

    def test_rows_that_are_not_tied(self):
        parts = ("tie", 0, (0,), 1, (0,))
        for t in (1, 2, 3):
            self.check_tie(parts, (t, (7,)), [], False)

    def test_to_the_row_itself_where_it_is_among_them(self):
        parts = ("tie", 0, (0,), 0, (1,))
        itself = (0, (3, 3))
        self.check_tie(parts, itself, [itself], False)
        self.check_tie(parts, itself, [], True)
        self.check_tie(parts, (0, (3, 4)), [(0, (3, 4))], True)
        self.check_tie(parts, (0, (3, 4)), [(0, (3, 4)), (0, (4, 3))], False)

    def test_the_cells_go_one_by_one(self):
        parts = ("tie", 0, (2, 0, 1), 1, (0, 1, 2))
        row = (0, ("a", "b", "c"))
        for cells in itertools.product("abc", repeat=3):
            self.check_tie(parts, row, [(1, cells)], cells != ("c", "a", "b"))

    def test_one_row_must_have_them_all(self):
        parts = ("tie", 0, (0, 1), 1, (0, 1))
        self.check_tie(parts, (0, (1, 2)), [(1, (1, 0)), (1, (0, 2))], True)
        self.check_tie(parts, (0, (1, 2)), [(1, (1, 0)), (1, (0, 2)), (1, (1, 2))], False)

    def test_a_column_more_than_once(self):
        self.check_tie(("tie", 0, (0, 0), 1, (0, 1)), (0, (5,)), [(1, (5, 6)), (1, (6, 5))], True)
        self.check_tie(("tie", 0, (0, 0), 1, (0, 1)), (0, (5,)), [(1, (5, 5))], False)

    def test_the_rows_stay(self):
        rows = [(1, (8,)), (1, (7,)), (1, (7,))]
        before = copy.deepcopy(rows)
        rule = rule_of(("tie", 0, (0,), 1, (0,)))
        self.check(rule.lacks((0, (7,)), rows), False)
        self.assertEqual(rows, before)
        rows.clear()
        self.check(rule.lacks((0, (7,)), rows), True)


if __name__ == "__main__":
    unittest.main()
