"""How values are written and read [2, 9]."""

import itertools
import unittest

from mendsure.errors import NoText
from mendsure.texts import read_value, show_value
from mendsure.values import is_value

GREATEST = int("9" * 30)
WRITTEN = [
    (0, "0"),
    (7, "7"),
    (-7, "-7"),
    (10, "10"),
    (-100, "-100"),
    (GREATEST, "9" * 30),
    (-GREATEST, "-" + "9" * 30),
    (10 ** 29, "1" + "0" * 29),
    ("a", "a"),
    ("ann", "ann"),
    ("zzzzzzzz", "zzzzzzzz"),
]


class TestTexts(unittest.TestCase):
    def check_refused(self, thing):
        with self.subTest(repr(thing)):
            with self.assertRaises(NoText):
                read_value(thing)

    def test_shown(self):
        for value, text in WRITTEN:
            with self.subTest(text):
                self.assertEqual(show_value(value), text)
                self.assertIs(type(show_value(value)), str)

    def test_read(self):
        for value, text in WRITTEN:
            with self.subTest(text):
                self.assertEqual(read_value(text), value)
                self.assertIs(type(read_value(text)), type(value))

    def test_what_is_written_is_read_to_the_same(self):
        for number in range(-1100, 1101):
            self.assertEqual(read_value(show_value(number)), number)

    def test_noughts(self):
        for text in ("-0", "00", "-00", "01", "-01", "007", "000", "0" * 31):
            self.check_refused(text)

    def test_signs(self):
        for text in ("+1", "+0", "-", "+", "--1", "-+1", "1-", "1-2", "- 1", "+a", "-a", "?a"):
            self.check_refused(text)

    def test_blanks_and_line_ends(self):
        for text in ("", " ", "\n", " 1", "1 ", "1\n", "\n1", "1\r", "1 2", " a", "a ", "a\n", "\na", "-1\n", "0\n"):
            self.check_refused(text)

    def test_what_int_would_take(self):
        for text in ("1_000", "0x1", "1e3", "1.0", "0b1"):
            self.check_refused(text)

    def test_too_many_figures(self):
        for text in ("1" + "0" * 30, "-1" + "0" * 30, "9" * 31, "9" * 5000):
            self.check_refused(text)

    def test_names_that_are_none(self):
        for text in ("abcdefghi", "Ann", "aNn", "a1", "1a", "a-b", "a_b", "A"):
            self.check_refused(text)

    def test_what_is_no_text(self):
        for thing in (None, 0, 7, -1, True, False, (), ("a",), ["a"], ["1"], {}, b"a", b"1"):
            self.check_refused(thing)

    def test_all_short_texts(self):
        signs = "019-+az A?\n"
        numbers = {str(number): number for number in range(-99, 1000)}
        for length in range(4):
            for picked in itertools.product(signs, repeat=length):
                text = "".join(picked)
                if text in numbers:
                    self.assertEqual(read_value(text), numbers[text])
                elif is_value(text):
                    self.assertEqual(read_value(text), text)
                else:
                    self.check_refused(text)


if __name__ == "__main__":
    unittest.main()
