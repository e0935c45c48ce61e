"""Sure and maybe answers, the mended books in which a tuple fails and stands, and odds [2, 3, 11, 16, 17, 18]."""

import copy
import itertools
import unittest

from mendsure.books import book_of
from mendsure.errors import TooWide
from mendsure.mends import mended
from mendsure.questions import answers, question_of
from mendsure.sure import failing, maybe, odds, standing, sure
from mendsure.wording import read_question

# ann has 3 or 4, bob has 5, cat has 5 or a name.
PEOPLE = book_of([(2, 1), (1, 1)], [], [
    (0, ("ann", 3)), (0, ("bob", 5)), (0, ("ann", 4)), (0, ("cat", 5)), (0, ("cat", "none")), (1, (5,)), (1, (3,)),
])
# In their order: (0, 1, 3, 5, 6), (0, 1, 4, 5, 6), (1, 2, 3, 5, 6), (1, 2, 4, 5, 6).
FIRST, SECOND, THIRD, FOURTH = mended(PEOPLE)


def clashing_book(sizes):
    """A book whose table 0 has blocks of these sizes, table 1 one row for each number that stands there."""
    rows = [(0, (key, number)) for key, size in enumerate(sizes) for number in range(size)]
    return book_of([(2, 1), (1, 1)], [], rows + [(1, (number,)) for number in range(max(sizes))])


class SureCase(unittest.TestCase):
    def check_answers(self, book, text, expected_sure, expected_maybe):
        with self.subTest(book=book, text=text):
            question = read_question(book[0], text)
            for ask, expected in ((sure, expected_sure), (maybe, expected_maybe)):
                told = ask(book, question)
                self.assertEqual(told, expected)
                self.assertIs(type(told), list)
                self.assertEqual([type(answer) for answer in told], [tuple] * len(expected))

    def check_tuple(self, book, text, answer, fails, stands, expected_odds):
        with self.subTest(book=book, text=text, answer=answer):
            question = read_question(book[0], text)
            self.assertEqual(failing(book, question, answer), fails)
            self.assertEqual(standing(book, question, answer), stands)
            self.assertEqual(odds(book, question, answer), expected_odds)
            self.assertIs(type(odds(book, question, answer)), tuple)


class TestAnswers(SureCase):
    def test_with_a_head(self):
        self.check_answers(PEOPLE, "?x : 0 ?x ?y", [("ann",), ("bob",), ("cat",)], [("ann",), ("bob",), ("cat",)])
        self.check_answers(PEOPLE, "?x : 0 ?x 5", [("bob",)], [("bob",), ("cat",)])
        self.check_answers(PEOPLE, "?y : 0 ann ?y", [], [(3,), (4,)])
        self.check_answers(PEOPLE, "?y : 0 ?x ?y", [(5,)], [(3,), (4,), (5,), ("none",)])

    def test_several_names(self):
        self.check_answers(PEOPLE, "?y ?x : 0 ?x ?y", [(5, "bob")],
                           [(3, "ann"), (4, "ann"), (5, "bob"), (5, "cat"), ("none", "cat")])

    def test_several_atoms(self):
        self.check_answers(PEOPLE, "?x : 0 ?x ?y ; 1 ?y", [("bob",)], [("ann",), ("bob",), ("cat",)])
        self.check_answers(PEOPLE, "?x ?z : 0 ?x ?y ; 0 ?z ?y ; 1 ?y", [("bob", "bob")],
                           [("ann", "ann"), ("bob", "bob"), ("bob", "cat"), ("cat", "bob"), ("cat", "cat")])

    def test_without_a_head(self):
        self.check_answers(PEOPLE, ": 0 ?x 5", [()], [()])
        self.check_answers(PEOPLE, ": 0 ann ?y", [()], [()])
        self.check_answers(PEOPLE, ": 0 ann 3", [], [()])
        self.check_answers(PEOPLE, ": 0 ann 5", [], [])
        self.check_answers(PEOPLE, ": 0 ?x none ; 0 ann 4", [], [()])

    def test_sure_though_no_row_stands_in_each_mended_book(self):
        book = book_of([(2, 1)], [], [(0, (1, 7)), (0, (1, 8)), (0, (2, 7)), (0, (2, 8))])
        self.check_answers(book, "?x : 0 ?x ?y", [(1,), (2,)], [(1,), (2,)])
        self.check_answers(book, ": 0 ?x 7", [], [()])
        three = book_of([(2, 1), (1, 0)], [], [(0, (1, 7)), (0, (1, 8)), (1, (7,)), (1, (8,))])
        self.check_answers(three, ": 0 ?x ?y ; 1 ?y", [], [()])

    def test_rows_that_stand_together_in_no_mended_book(self):
        self.check_answers(PEOPLE, ": 0 ann 3 ; 0 ann 4", [], [])
        self.check_answers(PEOPLE, "?x : 0 ?x 3 ; 0 ?x 4", [], [])
        self.check_answers(PEOPLE, "?y ?z : 0 ann ?y ; 0 ann ?z", [], [(3, 3), (4, 4)])

    def test_each_in_its_own_mended_book(self):
        """Each answer fails in one mended book, though some answer stands in each of them."""
        book = book_of([(1, 0)], [], [(0, (number,)) for number in (2, 1, 0)])
        self.check_answers(book, "?x : 0 ?x", [], [(0,), (1,), (2,)])
        self.check_answers(book, ": 0 ?x", [()], [()])

    def test_a_good_book(self):
        book = book_of([(2, 2)], [], [(0, (2, "b")), (0, (2, "a")), (0, (10, "a"))])
        for text in ("?x : 0 ?x ?y", "?x ?y : 0 ?x ?y", ": 0 2 ?y", ": 0 3 ?y"):
            told = answers(book[2], read_question(book[0], text))
            self.check_answers(book, text, told, told)

    def test_a_book_without_rows(self):
        book = book_of([(2, 1)], [], [])
        self.check_answers(book, "?x : 0 ?x ?y", [], [])
        self.check_answers(book, ": 0 ?x ?y", [], [])

    def test_books_with_rules(self):
        below = ("never", 0, ((("cell", 0, 1), "less", ("is", 0)),))
        tie = ("tie", 0, (1,), 1, (0,))
        apart = ("apart", 0, 1, ((("cell", 0, 0), "same", ("cell", 1, 0)),))
        rows = [(0, ("a", 1)), (0, ("b", -1)), (0, ("b", 2)), (1, (1,)), (1, ("a",)), (0, ("c", 1))]
        # Row 1 is barred, row 2 lacks its tie, and 0 clashes with 4: (0, 3, 5) and (3, 4, 5).
        book = book_of([(2, 1), (1, 1)], [below, tie, apart], rows)
        self.assertEqual(mended(book), [(0, 3, 5), (3, 4, 5)])
        self.check_answers(book, "?x : 0 ?x ?y", [("c",)], [("a",), ("c",)])
        self.check_answers(book, "?x : 1 ?x", [(1,)], [(1,), ("a",)])
        self.check_tuple(book, "?x : 0 ?x ?y", ("b",), (0, 3, 5), None, (0, 2))
        self.check_tuple(book, "?x : 0 ?x ?y", ("a",), (3, 4, 5), (0, 3, 5), (1, 2))
        self.check_tuple(book, "?x : 0 ?x ?y", ("c",), None, (0, 3, 5), (2, 2))

    def test_in_the_order_of_values(self):
        rows = [(0, (thing, 0)) for thing in ("b", 10, -3, "a", 9)]
        book = book_of([(2, 1)], [], rows + [(0, ("b", 1))])
        expected = [(-3,), (9,), (10,), ("a",), ("b",)]
        self.check_answers(book, "?x : 0 ?x ?y", expected, expected)
        self.check_answers(book, "?x : 0 ?x 0", expected[:4], expected)


class TestTuples(SureCase):
    def test_sure(self):
        self.check_tuple(PEOPLE, "?x : 0 ?x 5", ("bob",), None, FIRST, (4, 4))

    def test_maybe(self):
        self.check_tuple(PEOPLE, "?x : 0 ?x 5", ("cat",), SECOND, FIRST, (2, 4))
        self.check_tuple(PEOPLE, "?x : 0 ?x none", ("cat",), FIRST, SECOND, (2, 4))
        self.check_tuple(PEOPLE, "?y : 0 ann ?y", (3,), THIRD, FIRST, (2, 4))
        self.check_tuple(PEOPLE, "?y : 0 ann ?y", (4,), FIRST, THIRD, (2, 4))
        self.check_tuple(PEOPLE, "?y ?z : 0 ann ?y ; 0 cat ?z", (4, 5), FIRST, THIRD, (1, 4))
        self.check_tuple(PEOPLE, "?y ?z : 0 ann ?y ; 0 cat ?z", (4, "none"), FIRST, FOURTH, (1, 4))
        self.check_tuple(PEOPLE, "?z ?y : 0 ann ?y ; 0 cat ?z", ("none", 4), FIRST, FOURTH, (1, 4))

    def test_no_answer_anywhere(self):
        self.check_tuple(PEOPLE, "?x : 0 ?x 5", ("ann",), FIRST, None, (0, 4))
        self.check_tuple(PEOPLE, "?x : 0 ?x 5", ("dan",), FIRST, None, (0, 4))
        self.check_tuple(PEOPLE, "?x : 0 ?x 5", (10 ** 29,), FIRST, None, (0, 4))
        self.check_tuple(PEOPLE, "?y ?z : 0 ann ?y ; 0 ann ?z", (3, 4), FIRST, None, (0, 4))

    def test_the_empty_tuple(self):
        self.check_tuple(PEOPLE, ": 0 ?x 5", (), None, FIRST, (4, 4))
        self.check_tuple(PEOPLE, ": 0 ann 4", (), FIRST, THIRD, (2, 4))
        self.check_tuple(PEOPLE, ": 0 ann 4 ; 0 cat none", (), FIRST, FOURTH, (1, 4))
        self.check_tuple(PEOPLE, ": 0 ann 5", (), FIRST, None, (0, 4))

    def test_names_that_stand_often(self):
        book = book_of([(2, 1)], [], [(0, (1, 1)), (0, (1, 2)), (0, (2, 2)), (0, (2, 1))])
        self.check_tuple(book, "?x : 0 ?x ?x", (1,), (1, 2), (0, 2), (2, 4))
        self.check_tuple(book, "?x : 0 ?x ?x", (2,), (0, 3), (0, 2), (2, 4))
        self.check_tuple(book, "?x ?y : 0 ?x ?y ; 0 ?y ?x", (1, 2), (0, 2), (1, 3), (1, 4))

    def test_a_value_that_is_called_like_a_name_of_the_head(self):
        book = book_of([(2, 1)], [], [(0, ("a", "b")), (0, ("a", "x")), (0, ("b", "b"))])
        self.check_tuple(book, "?x : 0 ?x x", ("a",), (0, 2), (1, 2), (1, 2))
        self.check_tuple(book, "?x : 0 ?x x", ("b",), (0, 2), None, (0, 2))
        self.check_tuple(book, "?x : 0 ?x b", ("b",), None, (0, 2), (2, 2))

    def test_a_good_book(self):
        book = book_of([(1, 1)], [], [(0, (1,)), (0, (2,))])
        self.check_tuple(book, "?x : 0 ?x", (2,), None, (0, 1), (1, 1))
        self.check_tuple(book, "?x : 0 ?x", (3,), (0, 1), None, (0, 1))

    def test_a_book_without_rows(self):
        book = book_of([(1, 1)], [], [])
        self.check_tuple(book, "?x : 0 ?x", (3,), (), None, (0, 1))
        self.check_tuple(book, ": 0 ?x", (), (), None, (0, 1))


class TestWidth(SureCase):
    def test_fifteen_rows_that_clash(self):
        book = clashing_book((3, 3, 3, 3, 3))
        keys = [(key,) for key in range(5)]
        self.check_answers(book, "?x : 0 ?x ?y ; 1 ?y", keys, keys)
        self.check_answers(book, "?x : 0 ?x 2", [], keys)
        self.check_tuple(book, "?x : 0 ?x 2", (4,), tuple(range(0, 15, 3)) + (15, 16, 17),
                         (0, 3, 6, 9, 14, 15, 16, 17), (81, 243))
        self.check_tuple(book, ": 0 ?x 2", (), tuple(range(0, 15, 3)) + (15, 16, 17),
                         (0, 3, 6, 9, 14, 15, 16, 17), (243 - 32, 243))
        self.check_tuple(book, ": 0 0 2 ; 0 1 2 ; 0 2 2 ; 0 4 2", (), tuple(range(0, 15, 3)) + (15, 16, 17),
                         (2, 5, 8, 9, 14, 15, 16, 17), (3, 243))

    def check_too_wide(self, book, number):
        for text, answer in (("?x : 0 ?x ?y", (0,)), (": 0 ?x ?y", ()), ("?x : 1 ?x", (7,))):
            question = read_question(book[0], text)
            asked = [lambda: sure(book, question), lambda: maybe(book, question)]
            asked.extend([lambda ask=ask: ask(book, question, answer) for ask in (failing, standing, odds)])
            for ask in asked:
                with self.assertRaises(TooWide) as caught:
                    ask()
                self.assertEqual(caught.exception.number, number)

    def test_sixteen_and_more(self):
        self.check_too_wide(clashing_book((16,)), 16)
        self.check_too_wide(clashing_book((2,) * 8), 16)
        self.check_too_wide(clashing_book((2,) * 7 + (3,)), 17)
        self.check_too_wide(clashing_book((2,) * 29), 58)
        rules = [("apart", 0, 0, ((("cell", 0, 1), "unlike", ("cell", 1, 1)),))]
        self.check_too_wide(book_of([(2, 2), (1, 1)], rules, [(0, (0, number)) for number in range(16)]), 16)

    def test_answers_of_many_mended_books_are_found_in_one_walk(self):
        """Going through one by one would make about half a million tuples here."""
        rows = [(0, (key, number)) for key in range(5) for number in range(3)]
        rows += [(t, (number,)) for t in (1, 2) for number in range(20)]
        book = book_of([(2, 1), (1, 1), (1, 1)], [], rows)
        question = read_question(book[0], "?x ?y ?z : 0 ?x ?w ; 1 ?y ; 2 ?z")
        expected = list(itertools.product(range(5), range(20), range(20)))
        self.assertEqual(sure(book, question), expected)
        self.assertEqual(maybe(book, question), expected)


class TestHandedIn(unittest.TestCase):
    def test_what_is_handed_in_stays(self):
        question = question_of(PEOPLE[0], ["x"], [(0, (("var", "x"), ("var", "y"))), (1, (("var", "y"),))])
        before = copy.deepcopy((PEOPLE, question))
        sure(PEOPLE, question)
        maybe(PEOPLE, question)
        for ask in (failing, standing, odds):
            ask(PEOPLE, question, ("ann",))
        self.assertEqual((PEOPLE, question), before)

    def test_each_telling_is_its_own(self):
        question = read_question(PEOPLE[0], "?x : 0 ?x 5")
        for ask, expected in ((sure, [("bob",)]), (maybe, [("bob",), ("cat",)])):
            told = ask(PEOPLE, question)
            other = ask(PEOPLE, question)
            told.append(None)
            told[0] = ()
            self.assertEqual(other, expected)
            self.assertEqual(ask(PEOPLE, question), expected)


if __name__ == "__main__":
    unittest.main()
