"""Values and their order [2, 4]."""

import itertools
import unittest

from mendsure.values import ahead, in_order, is_value

GREATEST = int("9" * 30)
IN_ORDER = [-GREATEST, -10, -9, -1, 0, 1, 2, 9, 10, GREATEST, "a", "aa", "ab", "b", "ba", "zzzzzzzz"]


class TestIsValue(unittest.TestCase):
    def check(self, thing, expected):
        with self.subTest(repr(thing)):
            self.assertIs(is_value(thing), expected)

    def test_numbers(self):
        for number in (0, 1, -1, 42, GREATEST, -GREATEST, 10 ** 29):
            self.check(number, True)

    def test_numbers_of_too_many_figures(self):
        for number in (GREATEST + 1, -GREATEST - 1, 10 ** 31, 10 ** 3999, -(10 ** 3999)):
            self.check(number, False)

    def test_truths_are_no_values(self):
        self.check(True, False)
        self.check(False, False)

    def test_names(self):
        for name in ("a", "z", "m", "ann", "abcdefgh", "zzzzzzzz"):
            self.check(name, True)

    def test_names_of_no_letter_or_too_many(self):
        for text in ("", "abcdefghi", "a" * 100):
            self.check(text, False)

    def test_each_other_sign_makes_no_name(self):
        letters = "abcdefghijklmnopqrstuvwxyz"
        for sign in [chr(code) for code in range(32, 127)] + ["\n", "\r"]:
            self.check(sign, sign in letters)
            self.check("a" + sign, sign in letters)
            self.check(sign + "a", sign in letters)

    def test_other_things(self):
        for thing in (None, (), (1,), ("a",), [], [1], ["a"], {}, {1: 2}, 1.0, b"a", object(), int, float("nan")):
            self.check(thing, False)


class TestAhead(unittest.TestCase):
    def test_all_pairs_of_values(self):
        for (i, one), (j, other) in itertools.product(enumerate(IN_ORDER), repeat=2):
            with self.subTest(one=one, other=other):
                self.assertIs(ahead(one, other), i < j)

    def test_all_pairs_of_tuples(self):
        some = [-10, -9, 2, 10, "a", "b"]
        pairs = [(one, other) for one in some for other in some]
        for (i, one), (j, other) in itertools.product(enumerate(pairs), repeat=2):
            with self.subTest(one=one, other=other):
                self.assertIs(ahead(one, other), i < j)

    def test_the_first_unlike_place_decides(self):
        self.assertIs(ahead((1, 2, "z", 0), (1, 3, "a", 9)), True)
        self.assertIs(ahead((1, 3, "a", 9), (1, 2, "z", 0)), False)
        self.assertIs(ahead((1, "b", 5), (1, "b", "a")), True)

    def test_empty_tuples_and_tuples_of_one(self):
        self.assertIs(ahead((), ()), False)
        self.assertIs(ahead((10,), ("a",)), True)
        self.assertIs(ahead(("a",), (10,)), False)
        self.assertIs(ahead((1,), (1,)), False)


class TestInOrder(unittest.TestCase):
    def test_nothing(self):
        self.assertEqual(in_order([]), [])

    def test_empty_tuples(self):
        self.assertEqual(in_order([(), ()]), [()])

    def test_every_value_in_its_place(self):
        singles = [(value,) for value in IN_ORDER]
        self.assertEqual(in_order(singles[::-1]), singles)
        self.assertEqual(in_order(singles), singles)

    def test_several_times_the_same(self):
        told = in_order([("b", 1), (2, "a"), ("b", 1), (2, 10), (2, "a"), (2, 9), ("b", 1)])
        self.assertEqual(told, [(2, 9), (2, 10), (2, "a"), ("b", 1)])

    def test_all_orders_are_told_alike(self):
        expected = [(-1, "a"), (0, 5), (0, "a"), ("a", 0)]
        for some in itertools.permutations(expected + [(0, 5)]):
            self.assertEqual(in_order(list(some)), expected)

    def test_what_is_handed_in_stays(self):
        some = [(2,), (1,), (2,)]
        in_order(some)
        self.assertEqual(some, [(2,), (1,), (2,)])

    def test_what_is_told_is_the_askers_own(self):
        some = [(1,), (2,)]
        told = in_order(some)
        self.assertIs(type(told), list)
        self.assertIsNot(told, some)
        some.append((0,))
        self.assertEqual(told, [(1,), (2,)])
        told.append((3,))
        self.assertEqual(some, [(1,), (2,), (0,)])
        self.assertEqual(in_order([(1,), (2,)]), [(1,), (2,)])


if __name__ == "__main__":
    unittest.main()
