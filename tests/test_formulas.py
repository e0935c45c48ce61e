"""Formulas, and whether they hold of some rows [2, 23]."""

import copy
import itertools
import unittest

from mendsure.formulas import holds

from plain_search import VALUES, Chance, plain_holds

YES = ("yes",)
# same of two values that are unlike, so this never holds.
NEVER = ("same", ("is", 0), ("is", 1), YES)
ROWS = [(0, (1, 1)), (0, (1, 2)), (0, ("ann", 3)), (1, (2,)), (1, ("ann",))]


def var(name):
    return ("var", name)


def value(thing):
    return ("is", thing)


def some(t, *terms, inner=YES):
    return ("some", t, terms, inner)


def each(t, *terms, inner=YES):
    return ("each", t, terms, inner)


def same(one, other, inner=YES):
    return ("same", one, other, inner)


def nested(parts):
    """The formula of parts, each one within the one ahead of it."""
    formula = YES
    for part in reversed(parts):
        formula = part[:-1] + (formula,)
    return formula


class FormulaCase(unittest.TestCase):
    def check(self, formula, expected, values=None, rows=ROWS):
        with self.subTest(formula=formula, values=values):
            self.assertIs(holds(formula, rows, {} if values is None else values), expected)


class TestYes(FormulaCase):
    def test_it_holds(self):
        for rows, values in itertools.product((ROWS, [], ROWS[3:]), ({}, {"x": 7})):
            self.check(YES, True, values, rows)


class TestSame(FormulaCase):
    def test_values(self):
        self.check(same(value(7), value(7)), True)
        self.check(same(value(7), value(8)), False)
        self.check(same(value("ann"), value("ann")), True)
        self.check(same(value("ann"), value("bob")), False)
        self.check(same(value(0), value("a")), False)
        self.check(same(value(-(10 ** 29)), value(-(10 ** 29))), True)

    def test_names_that_have_a_value(self):
        values = {"x": 7, "y": "ann", "z": 7}
        self.check(same(var("x"), value(7)), True, values)
        self.check(same(value(7), var("x")), True, values)
        self.check(same(var("x"), value(8)), False, values)
        self.check(same(value("ann"), var("x")), False, values)
        self.check(same(var("x"), var("z")), True, values)
        self.check(same(var("x"), var("y")), False, values)
        self.check(same(var("y"), var("y")), True, values)

    def test_a_value_that_is_spelt_as_a_name_is(self):
        self.check(same(var("x"), value("x")), False, {"x": "y"})
        self.check(same(var("x"), value("x")), True, {"x": "x"})
        self.check(same(var("x"), var("y")), False, {"x": "y", "y": "x"})

    def test_inner(self):
        for one, other in itertools.product((7, 8), repeat=2):
            formula = same(value(one), value(7), same(value(other), value(7)))
            self.check(formula, one == 7 and other == 7)

    def test_of_no_rows(self):
        self.check(same(value(7), value(7)), True, rows=[])
        self.check(same(value(7), value(8)), False, rows=[])


class TestSome(FormulaCase):
    def test_values_in_their_places(self):
        self.check(some(0, value(1), value(2)), True)
        self.check(some(0, value(2), value(1)), False)
        self.check(some(0, value("ann"), value(3)), True)
        self.check(some(0, value("ann"), value(2)), False)
        self.check(some(1, value(2)), True)
        self.check(some(1, value(1)), False)

    def test_rows_of_that_table_alone(self):
        self.check(some(1, value(1)), False, rows=[(0, (1,)), (2, (1,))])
        self.check(some(2, var("x")), False)
        self.check(some(0, var("x")), True, rows=[(1, (2,)), (0, (1,))])

    def test_names_that_have_a_value(self):
        self.check(some(0, var("x"), var("y")), True, {"x": 1, "y": 2})
        self.check(some(0, var("x"), var("y")), False, {"x": 2, "y": 1})
        self.check(some(0, var("x"), var("x")), True, {"x": 1})
        self.check(some(0, var("x"), var("x")), False, {"x": 2})
        self.check(some(1, var("x")), True, {"x": "ann"})

    def test_names_that_have_none(self):
        self.check(some(0, var("x"), var("y")), True)
        self.check(some(0, value("ann"), var("y")), True)
        self.check(some(0, var("x"), value(9)), False)
        self.check(some(1, var("x")), True, rows=[(1, ("b",))])

    def test_names_with_a_value_beside_names_without(self):
        self.check(some(0, var("x"), var("y")), True, {"y": 3})
        self.check(some(0, var("x"), var("y")), False, {"y": 4})

    def test_a_name_twice(self):
        self.check(some(0, var("x"), var("x")), True)
        self.check(some(0, var("x"), var("x")), False, rows=ROWS[1:])
        self.check(some(0, var("x"), value(5), var("x")), True, rows=[(0, (1, 5, 2)), (0, (3, 5, 3))])
        self.check(some(0, var("x"), value(5), var("x")), False, rows=[(0, (1, 5, 2)), (0, (3, 6, 3))])
        four = [(0, (1, 1, 2, 2)), (0, (1, 2, 2, 1))]
        self.check(some(0, var("x"), var("x"), var("y"), var("y")), True, rows=four)
        self.check(some(0, var("x"), var("y"), var("x"), var("y")), False, rows=four)

    def test_in_inner_the_name_has_the_rows_value(self):
        for thing, expected in ((1, True), (2, True), (3, True), (4, False), ("ann", False)):
            self.check(some(0, var("x"), var("y"), inner=same(var("y"), value(thing))), expected)
        self.check(some(0, var("x"), var("y"), inner=some(1, var("y"))), True)
        self.check(some(0, var("x"), var("y"), inner=some(1, var("x"))), True)
        self.check(some(0, value(1), var("y"), inner=some(0, var("y"), value(2))), True)
        self.check(some(0, var("x"), value(3), inner=some(0, value(1), var("x"))), False)

    def test_the_next_row_is_tried_with_the_names_as_they_were(self):
        rows = [(0, (1,)), (0, (2,)), (0, (3,)), (1, (2,))]
        for ordered in itertools.permutations(rows):
            self.check(some(0, var("x"), inner=some(1, var("x"))), True, rows=list(ordered))

    def test_where_inner_never_holds(self):
        self.check(some(0, var("x"), var("y"), inner=NEVER), False)

    def test_where_no_row_fits(self):
        self.check(some(0, value(9), var("y")), False)
        self.check(some(0, value(9), var("y"), inner=NEVER), False)

    def test_of_no_rows_at_all(self):
        self.check(some(0, var("x"), var("y")), False, rows=[])


class TestEach(FormulaCase):
    def test_inner_of_each_row_that_fits(self):
        formula = each(0, value(1), var("y"), inner=some(1, var("y")))
        self.check(formula, False)
        self.check(formula, True, rows=ROWS + [(1, (1,))])
        self.check(formula, True, rows=ROWS[1:])
        self.check(each(0, var("x"), var("y"), inner=each(0, var("x"), var("y"))), True)

    def test_one_row_is_enough_to_break_it(self):
        for broken in range(4):
            rows = [(0, (7 if number == broken else 1, number)) for number in range(4)]
            self.check(each(0, var("x"), var("y"), inner=same(var("x"), value(1))), False, rows=rows)
        self.check(each(0, var("x"), var("y"), inner=same(var("x"), value(1))), True,
                   rows=[(0, (1, number)) for number in range(4)])

    def test_where_no_row_fits(self):
        for terms in ((value(9), var("y")), (value(1), value(9)), (var("x"), value("ann"))):
            self.check(each(0, *terms, inner=NEVER), True)
        self.check(each(0, var("x"), var("y"), inner=NEVER), True, {"x": 9})
        self.check(each(2, var("x"), inner=NEVER), True)

    def test_of_no_rows_at_all(self):
        self.check(each(0, var("x"), var("y"), inner=NEVER), True, rows=[])
        self.check(each(0, var("x"), var("y")), True, rows=[])

    def test_where_rows_fit_and_inner_never_holds(self):
        self.check(each(0, var("x"), var("y"), inner=NEVER), False)
        self.check(each(0, value("ann"), var("y"), inner=NEVER), False)

    def test_names_that_have_a_value(self):
        formula = each(0, var("x"), var("y"), inner=same(var("y"), value(3)))
        self.check(formula, True, {"x": "ann"})
        self.check(formula, False, {"x": 1})
        self.check(formula, True, {"x": 5})
        self.check(formula, False, {"y": 2})
        self.check(formula, True, {"y": 3})

    def test_a_name_twice_leaves_rows_out(self):
        formula = each(0, var("x"), var("x"), inner=same(var("x"), value(1)))
        self.check(formula, True)
        self.check(formula, False, rows=ROWS + [(0, (2, 2))])
        self.check(formula, True, rows=ROWS + [(0, (2, 1))])

    def test_rows_of_that_table_alone(self):
        self.check(each(1, var("x"), inner=same(var("x"), value(2))), True, rows=[(0, (1,)), (1, (2,)), (2, (3,))])


class TestWithin(FormulaCase):
    def test_some_and_each(self):
        # Some key of table 0 of which each row has a cell that stands in table 1.
        formula = some(0, var("x"), var("y"), inner=each(0, var("x"), var("z"), inner=some(1, var("z"))))
        self.check(formula, False)
        self.check(formula, True, rows=ROWS + [(1, (3,))])
        self.check(formula, False, rows=ROWS + [(0, ("ann", 4)), (1, (3,))])
        self.check(formula, True, rows=ROWS + [(0, ("ann", 4)), (1, (1,))])

    def test_each_and_some(self):
        formula = each(1, var("x"), inner=some(0, var("y"), var("z"), inner=same(var("x"), var("z"))))
        self.check(formula, False)
        self.check(formula, True, rows=ROWS[:4])

    def test_a_name_has_its_value_in_all_that_is_within(self):
        formula = some(0, var("x"), var("y"), inner=each(1, var("z"), inner=some(1, var("y"))))
        self.check(formula, True)
        self.check(formula, False, rows=[(0, (1, 1)), (1, (2,))])
        # Of the inner some the name has a value, so it asks for that alone.
        self.check(some(1, value(2), inner=some(1, var("x"), inner=some(0, var("x"), value(3)))), True)
        self.check(some(0, var("x"), value(2), inner=some(1, var("x"))), False)

    def test_rows_that_stand_twice(self):
        rows = ROWS + ROWS[::-1]
        self.check(some(0, var("x"), var("x")), True, rows=rows)
        self.check(each(0, value(1), var("y"), inner=some(1, var("y"))), False, rows=rows)
        self.check(each(0, value("ann"), var("y"), inner=same(var("y"), value(3))), True, rows=rows)

    def test_rows_as_a_tuple(self):
        self.check(some(0, var("x"), var("x")), True, rows=tuple(ROWS))

    def test_names_may_be_any_text(self):
        for name in ("", " ", "some x", "0", "X", "?x", "averylongname", "x y z ~", "yes", "\n"):
            self.check(some(0, var(name), var(name)), True)
            self.check(some(0, var(name), var(name), inner=same(var(name), value(2))), False)
            self.check(some(1, var(name)), True, {name: "ann"})
            self.check(some(1, var(name)), False, {name: "bob"})

    def test_values_of_names_that_stand_nowhere(self):
        self.check(some(0, var("x"), var("x")), True, {"y": 9, "z": "ann"})
        self.check(NEVER, False, {"y": 9, "z": "ann"})

    def test_wide_numbers(self):
        great = 10 ** 30 - 1
        self.check(some(0, value(great), var("x"), inner=same(var("x"), value(-great))), True,
                   rows=[(0, (great, -great))])


class TestSixtyParts(FormulaCase):
    def test_sames(self):
        for parts in (59, 60, 300):
            self.check(nested([same(value(number), value(number)) for number in range(parts)]), True)
            self.check(nested([same(value(number % (parts - 1)), value(number)) for number in range(parts)]), False)

    def test_one_row_and_all_names(self):
        parts = [(some, each)[number % 2](0, var(f"x{number}")) for number in range(30)]
        asked = [same(var(f"x{number}"), value(7)) for number in range(30)]
        self.check(nested(parts + asked), True, rows=[(0, (7,))])
        self.check(nested(parts + asked), False, rows=[(0, (8,))])

    def test_many_rows_and_names_that_nothing_asks_for(self):
        rows = [(0, (number,)) for number in range(60)]
        parts = [(some, each)[number % 2](0, var(f"x{number}")) for number in range(58)]
        self.check(nested(parts + [each(0, var("y")), same(var("y"), value(59))]), False, rows=rows)
        self.check(nested(parts + [some(0, var("y")), same(var("y"), value(59))]), True, rows=rows)
        self.check(nested(parts + [some(0, var("y")), same(var("y"), value(60))]), False, rows=rows)


class TestBySearch(unittest.TestCase):
    def test_formulas_by_chance(self):
        chance = Chance(54)
        seen = {}
        for case in range(1500):
            book = chance.book(8, ())
            named = ("v", "w")[:case % 3]
            formula = chance.formula(book[0], named, 5)
            for one, other in itertools.product(VALUES[:4], repeat=2):
                values = dict(zip(named, (one, other)))
                expected = plain_holds(formula, book[2], values)
                with self.subTest(rows=book[2], formula=formula, values=values):
                    self.assertIs(holds(formula, list(book[2]), values), expected)
                seen[(formula[0], expected)] = seen.get((formula[0], expected), 0) + 1
        self.assertEqual(len(seen), 7)


class TestHandedIn(FormulaCase):
    def test_what_is_handed_in_stays(self):
        rows = list(ROWS)
        values = {"x": 1, "w": 5}
        formula = some(0, var("x"), var("y"), inner=each(1, var("z"), inner=some(0, var("x"), var("y"))))
        before = copy.deepcopy((formula, rows, values))
        self.check(formula, True, values, rows)
        self.assertEqual((formula, rows, values), before)

    def test_what_is_changed_behind_the_call_is_seen_by_the_next(self):
        rows = [(0, (1,))]
        values = {}
        self.check(some(0, var("x"), inner=same(var("x"), value(2))), False, values, rows)
        rows.append((0, (2,)))
        self.check(some(0, var("x"), inner=same(var("x"), value(2))), True, values, rows)
        values["x"] = 1
        self.check(some(0, var("x"), inner=same(var("x"), value(2))), False, values, rows)


if __name__ == "__main__":
    unittest.main()
