"""How questions are written and read [2, 9, 13, 14]."""

import itertools
import re
import unittest

from mendsure.errors import MendError, NoQuestion, NoText
from mendsure.questions import question_of
from mendsure.wording import read_question, show_question

from plain_search import Chance

TABLES = [(2, 1), (3, 0), (1, 1), (4, 4)]
GREATEST = int("9" * 30)


def var(name):
    return ("var", name)


def value(thing):
    return ("is", thing)


WRITTEN = [
    ("?x ?y : 0 ?x 7 ; 2 ?y", (("x", "y"), ((0, (var("x"), value(7))), (2, (var("y"),))))),
    (": 0 ?x 7", ((), ((0, (var("x"), value(7))),))),
    (": 2 0", ((), ((2, (value(0),)),))),
    (": 2 ann", ((), ((2, (value("ann"),)),))),
    (": 2 ?ann", ((), ((2, (var("ann"),)),))),
    ("?y : 0 ?x ?y", (("y",), ((0, (var("x"), var("y"))),))),
    ("?y ?x : 0 ?x ?y", (("y", "x"), ((0, (var("x"), var("y"))),))),
    (": 1 -7 -10 -100", ((), ((1, (value(-7), value(-10), value(-100))),))),
    (": 0 var is", ((), ((0, (value("var"), value("is"))),))),
    ("?var : 0 ?is ?var", (("var",), ((0, (var("is"), var("var"))),))),
    ("?x : 2 ?x ; 2 ?x", (("x",), ((2, (var("x"),)), (2, (var("x"),))))),
    ("?x : 1 ?x ?x ?x", (("x",), ((1, (var("x"), var("x"), var("x"))),))),
    (
        "?d ?c ?b ?a : 3 ?a ?b ?c ?d ; 0 10 ?a ; 2 zzzzzzzz ; 1 0 x ?zzzzzzzz",
        (("d", "c", "b", "a"), (
            (3, (var("a"), var("b"), var("c"), var("d"))), (0, (value(10), var("a"))), (2, (value("zzzzzzzz"),)),
            (1, (value(0), value("x"), var("zzzzzzzz"))),
        )),
    ),
    (f": 0 {GREATEST} -{GREATEST}", ((), ((0, (value(GREATEST), value(-GREATEST))),))),
    (f": 0 1{'0' * 29} ?x", ((), ((0, (value(10 ** 29), var("x"))),))),
]

NAME = r"\?[a-z]{1,8}"
NUMBER = r"(0|-?[1-9][0-9]{0,29})"
TERM = rf"({NAME}|{NUMBER}|[a-z]{{1,8}})"
ATOM = rf"{NUMBER}( {TERM})*"
QUESTION = re.compile(rf"({NAME} )*:( {ATOM})( ; {ATOM})*")


class WordingCase(unittest.TestCase):
    def check_read(self, text, expected):
        with self.subTest(text):
            for tables in (TABLES, tuple(TABLES)):
                told = read_question(tables, text)
                self.assertEqual(told, expected)
                self.assertEqual([type(part) for part in (told,) + told], [tuple] * 3)

    def check_no_text(self, text):
        with self.subTest(repr(text)):
            with self.assertRaises(MendError) as caught:
                read_question(TABLES, text)
            self.assertIs(type(caught.exception), NoText)

    def check_no_question(self, text, place):
        with self.subTest(text):
            with self.assertRaises(MendError) as caught:
                read_question(TABLES, text)
            self.assertIs(type(caught.exception), NoQuestion)
            self.assertEqual(caught.exception.place, place)


class TestWritten(WordingCase):
    def test_shown(self):
        for text, question in WRITTEN:
            with self.subTest(text):
                self.assertEqual(show_question(question), text)
                self.assertIs(type(show_question(question)), str)

    def test_read(self):
        for text, question in WRITTEN:
            self.assertEqual(question_of(TABLES, *question), question)
            self.check_read(text, question)

    def test_the_words_of_the_document(self):
        text = "?x ?y : 0 ?x 7 ; 1 ?y ann"
        question = (("x", "y"), ((0, (var("x"), value(7))), (1, (var("y"), value("ann")))))
        self.assertEqual(show_question(question), text)
        self.assertEqual(read_question([(2, 1), (2, 2)], text), question)

    def test_numbers_are_read_as_numbers(self):
        told = read_question(TABLES, ": 0 7 ?x")
        self.assertEqual([type(told[1][0][0]), type(told[1][0][1][0][1])], [int, int])

    def test_what_is_written_is_read_to_the_same(self):
        chance = Chance(31)
        things = [0, 7, -7, 10, -10, GREATEST, -GREATEST, "a", "ann", "zzzzzzzz", "var", "is"]
        seen = {}
        for case in range(600):
            question = chance.question(TABLES, 4, things)
            text = show_question(question)
            with self.subTest(text):
                self.assertEqual(read_question(TABLES, text), question)
                self.assertTrue(QUESTION.fullmatch(text))
            seen[(len(question[0]), len(question[1]))] = True
        self.assertEqual(sorted(seen), list(itertools.product(range(5), range(1, 5))))

    def test_what_is_handed_in_stays(self):
        tables = list(TABLES)
        for text, question in WRITTEN:
            show_question(question)
            read_question(tables, text)
        self.assertEqual(tables, TABLES)


class TestNoText(WordingCase):
    def test_a_blank_too_many(self):
        for text, question in WRITTEN:
            self.check_no_text(" " + text)
            self.check_no_text(text + " ")
            for place, sign in enumerate(text):
                if sign == " ":
                    self.check_no_text(text[:place] + " " + text[place:])

    def test_a_blank_too_few(self):
        for text in (":0 ?x 7", "?x: 0 ?x 7", "?x :0 ?x 7", "?x : 0?x 7"):
            self.check_no_text(text)
        for text in (": 2 ?x; 2 ?y", ": 2 ?x ;2 ?y", ": 2 ?x;2 ?y"):
            self.check_no_text(text)
        for text in ("?x?y : 0 ?x ?y", ": 0 ?x?y", ": 0 7?x", ": 0 7a"):
            self.check_no_text(text)

    def test_line_ends_part_nothing(self):
        for text in (": 2 ?x\n", "\n: 2 ?x", ":\n2 ?x", ": 2\n?x", ": 2 ?x\n; 2 ?x", "\n", ": 2 7\n", ": 2 a\n"):
            self.check_no_text(text)

    def test_no_colon(self):
        for text in ("", " ", "?x", "0 ?x 7", "?x 0 ?x 7", "?x ; 0 ?x 7", "::", ": :", "x"):
            self.check_no_text(text)

    def test_two_colons(self):
        for text in (": : 0 ?x 7", "?x : : 0 ?x 7", "?x : 0 ?x 7 :", ": 0 ?x 7 : 2 ?x", ": 0 : 7", ": : :", ":: 2 ?x"):
            self.check_no_text(text)

    def test_no_atoms(self):
        for text in (":", "?x :", "?x ?y :", ": ", "?x : "):
            self.check_no_text(text)

    def test_semicolons(self):
        for text in (": ; 2 ?x", ": 2 ?x ;", ": 2 ?x ; ; 2 ?y", ": ;", ": ; ;", ": 2 ?x ;;"):
            self.check_no_text(text)
        for text in ("; : 2 ?x", "?x ; : 2 ?x", ";", "; ;"):
            self.check_no_text(text)

    def test_names(self):
        for piece in ("?", "??x", "?X", "?x1", "?1", "?-1", "x?", "?abcdefghi", "?x_y", "?x;", "?:", "?;"):
            self.check_no_text(f": 2 {piece}")
            self.check_no_text(f"{piece} : 2 ?x")
            self.check_no_text(f"?x {piece} : 2 ?x")

    def test_a_head_of_other_pieces(self):
        for piece in ("x", "7", "0", "-1", "ann", ";", ",", "?x,"):
            self.check_no_text(f"{piece} : 2 ?x")
            self.check_no_text(f"?x {piece} : 2 ?x")

    def test_numbers(self):
        for piece in ("-0", "00", "01", "-01", "007", "+1", "1.0", "1_0", "--1", "-", "1e3", "9" * 31, "-" + "9" * 31):
            self.check_no_text(f": 2 {piece}")
            self.check_no_text(f": {piece} ?x")
            self.check_no_text(f": 2 ?x ; {piece} ?x")

    def test_values_that_are_none(self):
        for piece in ("X", "Ann", "a1", "1a", "abcdefghi", "a-b", "'a'", "(", "a;", "a:", "%"):
            self.check_no_text(f": 2 {piece}")
            self.check_no_text(f": 0 {piece} ?x")

    def test_an_atom_that_begins_otherwise(self):
        for piece in ("?x", "ann", "x", "?"):
            self.check_no_text(f": {piece}")
            self.check_no_text(f": {piece} ?x")
            self.check_no_text(f": 2 ?x ; {piece} ?x")

    def test_what_is_no_text(self):
        things = (None, 0, 7, True, False, (), (": 2 ?x",), [": 2 ?x"], [":", "2", "?x"], {}, b": 2 ?x", WRITTEN[0][1])
        for thing in things:
            self.check_no_text(thing)

    def test_ahead_of_no_question(self):
        for text in (": 9 ?x ; 2 X", "?z ?z : 2 -0", "?z : 2 ?x ;", ": 9 ;", ": 2 ?x ; 2 ; 2 ; 2 ; 2 ; 2 ?X"):
            self.check_no_text(text)


class TestNoQuestion(WordingCase):
    def test_tables_that_are_not_there(self):
        for t in ("4", "5", "-1", "-2", "10", "9" * 30, "-" + "9" * 30):
            self.check_no_question(f": {t} ?x", 0)
            self.check_no_question(f"?x : 2 ?x ; {t} ?x", 1)
            self.check_no_question(f": 2 ?x ; 2 7 ; 0 a ?x ; {t} ?x", 3)

    def test_how_many_terms(self):
        for t, wide in enumerate([2, 3, 1, 4]):
            for many in range(7):
                text = f": 2 7 ; {t}" + " ?x" * many
                if many == wide:
                    self.check_read(text, ((), ((2, (value(7),)), (t, (var("x"),) * wide))))
                else:
                    self.check_no_question(text, 1)

    def test_how_many_atoms(self):
        for many in (1, 2, 3, 4):
            self.check_read(": " + " ; ".join(["2 ?x"] * many), ((), ((2, (var("x"),)),) * many))
        for many in (5, 6, 20):
            self.check_no_question(": " + " ; ".join(["2 ?x"] * many), many)

    def test_heads(self):
        self.check_no_question("?y : 2 ?x", 1)
        self.check_no_question("?x : 2 x", 1)
        self.check_no_question("?x ?x : 2 ?x ; 2 ?x", 2)
        self.check_no_question("?a ?b ?c ?d ?e : 3 ?a ?b ?c ?d ; 2 ?e", 2)

    def test_the_first_atom_is_told_ahead_of_the_head(self):
        self.check_no_question("?z ?z : 2 ?x ; 9 ?x ; 9 ?x", 1)

    def test_tables_that_are_fewer(self):
        with self.assertRaises(NoQuestion) as caught:
            read_question([(2, 1)], ": 0 ?x ?y ; 1 ?x")
        self.assertEqual(caught.exception.place, 1)


class TestAllTexts(WordingCase):
    def check_by_form(self, text):
        """That a text is refused with NoText just where it isn't of the written form."""
        try:
            told = read_question(TABLES, text)
        except NoText:
            self.assertFalse(QUESTION.fullmatch(text), repr(text))
        except NoQuestion:
            self.assertTrue(QUESTION.fullmatch(text), repr(text))
        else:
            self.assertTrue(QUESTION.fullmatch(text), repr(text))
            self.assertEqual(show_question(told), text)

    def test_all_texts_of_few_pieces(self):
        pieces = (":", ";", "2", "-1", "-0", "a", "?x", "?", "")
        for many in range(6):
            for picked in itertools.product(pieces, repeat=many):
                self.check_by_form(" ".join(picked))

    def test_all_texts_of_few_signs(self):
        for many in range(5):
            for picked in itertools.product(":; 20-?xX\n", repeat=many):
                self.check_by_form("".join(picked))

    def test_texts_with_one_sign_changed(self):
        for text, question in WRITTEN:
            for place in range(len(text) + 1):
                for sign in ":; 07-?xX\n":
                    self.check_by_form(text[:place] + sign + text[place:])
                    self.check_by_form(text[:place] + sign + text[place + 1:])
                self.check_by_form(text[:place] + text[place + 1:])


if __name__ == "__main__":
    unittest.main()
