"""Questions put otherwise, and the sure answers that the broken book itself tells [2, 3, 24, 25]."""

import copy
import itertools
import unittest

from mendsure.books import book_of
from mendsure.errors import Double, NotPlain, Ring, TooWide
from mendsure.formulas import holds
from mendsure.mends import mended
from mendsure.otherwise import put_otherwise, surely
from mendsure.questions import question_of
from mendsure.sure import sure
from mendsure.sways import ring, sways
from mendsure.wording import read_question

from plain_search import Chance, is_ring, names_of, plain_found, plain_holds, plain_rings

PAIRS = ((2, 1), (2, 1), (2, 1), (2, 1))
TIE = ("tie", 0, (0,), 0, (0,))
# ann has 3 or 4, bob has 5, cat has 5 or a name.
PEOPLE = book_of([(2, 1), (1, 1)], [], [
    (0, ("ann", 3)), (0, ("bob", 5)), (0, ("ann", 4)), (0, ("cat", 5)), (0, ("cat", "none")), (1, (5,)), (1, (3,)),
])


def deep(formula):
    """How many parts of a formula stand one within the other."""
    return 1 if formula == ("yes",) else 1 + deep(formula[-1])


class FormulaCase(unittest.TestCase):
    def check_term(self, term):
        self.assertIs(type(term), tuple)
        self.assertEqual(len(term), 2)
        self.assertIn(term[0], ("var", "is"))

    def check_form(self, tables, formula, named):
        """It is a formula as point 23 tells, in which the names of each same have a value already."""
        self.assertIs(type(formula), tuple)
        if formula == ("yes",):
            return
        self.assertEqual(len(formula), 4)
        if formula[0] == "same":
            terms = formula[1:3]
            self.assertLessEqual(names_of(terms), named)
        else:
            self.assertIn(formula[0], ("some", "each"))
            terms = formula[2]
            self.assertIs(type(terms), tuple)
            self.assertEqual(len(terms), tables[formula[1]][0])
        for term in terms:
            self.check_term(term)
        self.check_form(tables, formula[3], named | names_of(terms))

    def check_formula(self, tables, question):
        formula = put_otherwise(tables, question)
        self.check_form(tables, formula, set(question[0]))
        self.assertLessEqual(deep(formula), 60)
        return formula

    def check_told(self, book, text, expected):
        """The sure answers, and that the formula holds for just these."""
        question = read_question(book[0], text)
        with self.subTest(book=book, text=text):
            told = surely(book, question)
            self.assertEqual(told, expected)
            self.assertIs(type(told), list)
            self.assertEqual([type(answer) for answer in told], [tuple] * len(told))
            formula = self.check_formula(book[0], question)
            cells = sorted({str(cell) for t, cells in book[2] for cell in cells})
            things = [int(cell) if cell.isdigit() else cell for cell in cells] + [9, "zed"]
            for answer in itertools.product(things, repeat=len(question[0])):
                values = dict(zip(question[0], answer))
                self.assertIs(plain_holds(formula, book[2], values), answer in expected)
                self.assertIs(holds(formula, list(book[2]), values), answer in expected)


class TestSurely(FormulaCase):
    def test_one_atom(self):
        self.check_told(PEOPLE, "?x : 0 ?x ?y", [("ann",), ("bob",), ("cat",)])
        self.check_told(PEOPLE, "?x : 0 ?x 5", [("bob",)])
        self.check_told(PEOPLE, "?y : 0 ?x ?y", [(5,)])
        self.check_told(PEOPLE, "?y : 0 ann ?y", [])
        self.check_told(PEOPLE, "?y ?x : 0 ?x ?y", [(5, "bob")])

    def test_without_a_head(self):
        self.check_told(PEOPLE, ": 0 ?x 5", [()])
        self.check_told(PEOPLE, ": 0 ann ?y", [()])
        self.check_told(PEOPLE, ": 0 ann 3", [])
        self.check_told(PEOPLE, ": 0 dan ?y", [])
        self.check_told(PEOPLE, ": 1 5", [()])

    def test_several_atoms(self):
        self.check_told(PEOPLE, "?x : 0 ?x ?y ; 1 ?y", [("bob",)])
        self.check_told(PEOPLE, "?x : 1 ?y ; 0 ?x ?y", [("bob",)])
        self.check_told(PEOPLE, ": 0 ?x ?y ; 1 ?y", [()])
        self.check_told(PEOPLE, ": 0 cat ?y ; 1 ?y", [])

    def test_a_chain_of_four(self):
        rows = [(0, (1, 2)), (0, (1, 3)), (1, (2, 4)), (1, (3, 5)), (2, (4, 6)), (2, (5, 6)), (3, (6, 7)), (3, (6, 8))]
        self.check_told(book_of(PAIRS, [], rows), "?a : 0 ?a ?b ; 1 ?b ?c ; 2 ?c ?d ; 3 ?d ?e", [(1,)])
        self.check_told(book_of(PAIRS, [], rows), ": 3 ?d ?e ; 2 ?c ?d ; 1 ?b ?c ; 0 ?a ?b", [()])
        self.check_told(book_of(PAIRS, [], rows), "?d : 0 ?a ?b ; 1 ?b ?c ; 2 ?c ?d ; 3 ?d ?e", [(6,)])
        self.check_told(book_of(PAIRS, [], rows + [(1, (3, 9))]), ": 0 ?a ?b ; 1 ?b ?c ; 2 ?c ?d ; 3 ?d ?e", [])

    def test_each_row_of_a_block_may_find_another_one(self):
        rows = [(0, (1, 2)), (0, (1, 3)), (1, (2,)), (1, (3,))]
        self.check_told(book_of([(2, 1), (1, 1)], [], rows), ": 0 ?x ?y ; 1 ?y", [()])
        self.check_told(book_of([(2, 1), (1, 1)], [], rows), "?y : 0 ?x ?y ; 1 ?y", [])
        self.check_told(book_of([(2, 1), (1, 0)], [], rows), ": 0 ?x ?y ; 1 ?y", [])

    def test_names_that_stand_twice_in_an_atom(self):
        rows = [(0, (1, 1)), (0, (1, 2)), (0, (3, 3)), (0, (4, 5))]
        self.check_told(book_of([(2, 1)], [], rows), "?x : 0 ?x ?x", [(3,)])
        self.check_told(book_of([(2, 2)], [], rows), "?x : 0 ?x ?x", [(1,), (3,)])
        self.check_told(book_of([(2, 0)], [], rows), ": 0 ?x ?x", [])
        self.check_told(book_of([(2, 0)], [], [(0, (1, 1)), (0, (3, 3))]), ": 0 ?x ?x", [()])
        behind = [(0, (1, 5, 5)), (0, (1, 6, 6)), (0, (2, 5, 5)), (0, (2, 5, 6))]
        self.check_told(book_of([(3, 1)], [], behind), "?x : 0 ?x ?y ?y", [(1,)])
        self.check_told(book_of([(3, 1)], [], behind[2:]), ": 0 ?x ?y ?y", [])

    def test_names_that_stand_twice_in_a_key(self):
        rows = [(0, (1, 1, 5)), (0, (1, 1, 6)), (0, (2, 2, 5)), (0, (1, 2, 5)), (0, (3, 4, 5))]
        self.check_told(book_of([(3, 2)], [], rows), "?x : 0 ?x ?x ?y", [(1,), (2,)])
        self.check_told(book_of([(3, 2)], [], rows), "?x : 0 ?x ?x 5", [(2,)])

    def test_keys_of_no_columns(self):
        rows = [(0, (7,)), (0, (8,)), (1, (7, 1)), (1, (8, 1)), (1, (8, 2))]
        self.check_told(book_of([(1, 0), (2, 1)], [], rows), ": 0 ?x ; 1 ?x ?y", [()])
        self.check_told(book_of([(1, 0), (2, 1)], [], rows), ": 0 ?x ; 1 ?x 1", [])
        self.check_told(book_of([(1, 0), (2, 0)], [], rows), ": 0 ?x ; 1 ?y ?z", [()])
        self.check_told(book_of([(1, 0), (2, 0)], [], rows), "?x : 0 ?x ; 1 ?y ?z", [])
        self.check_told(book_of([(1, 0), (2, 0)], [], rows[1:]), "?x : 0 ?x ; 1 ?y ?z", [(8,)])

    def test_keys_of_all_columns(self):
        rows = [(0, (1, 2)), (0, (1, 3)), (1, (2, 1)), (1, (3, 3))]
        self.check_told(book_of([(2, 2), (2, 2)], [], rows), "?x ?y : 0 ?x ?y ; 1 ?y ?x", [(1, 2)])
        self.check_told(book_of([(2, 2), (2, 2)], [], rows), "?x ?y ?z : 0 ?x ?y ; 1 ?y ?z", [(1, 2, 1), (1, 3, 3)])

    def test_atoms_that_have_nothing_in_common(self):
        rows = [(0, (1, 2)), (0, (1, 3)), (1, (5, 6)), (1, (7, 6))]
        self.check_told(book_of(PAIRS, [], rows), "?x ?y : 0 ?x ?z ; 1 ?y 6", [(1, 5), (1, 7)])
        self.check_told(book_of(PAIRS, [], rows), "?x ?y : 0 ?x 2 ; 1 ?y 6", [])

    def test_without_rows(self):
        book = book_of(PAIRS, [], [])
        self.check_told(book, ": 0 ?x ?y", [])
        self.check_told(book, "?x : 0 ?x ?y ; 1 ?y ?z", [])

    def test_where_more_than_fifteen_rows_clash(self):
        rows = [(0, (key, number)) for key in range(20) for number in range(2)]
        rows.extend([(1, (number, 1)) for number in range(2)] + [(1, (0, 2))])
        book = book_of(PAIRS, [], rows)
        question = read_question(PAIRS, "?x : 0 ?x ?y ; 1 ?y ?z")
        with self.assertRaises(TooWide):
            sure(book, question)
        self.check_told(book, "?x : 0 ?x ?y ; 1 ?y ?z", [(key,) for key in range(20)])
        self.check_told(book, "?x : 0 ?x ?y ; 1 ?y 1", [])
        sixty = book_of([(2, 1)], [], [(0, (key, number)) for key in range(20) for number in range(3)])
        self.check_told(sixty, "?x : 0 ?x ?y", [(key,) for key in range(20)])

    def test_all_answers_of_sixty_rows(self):
        rows = [(t, (number,)) for t in range(4) for number in range(15)]
        book = book_of([(1, 1), (1, 1), (1, 1), (1, 0)], [], rows)
        question = read_question(book[0], "?a ?b ?c : 0 ?a ; 1 ?b ; 2 ?c ; 3 ?d")
        self.assertEqual(surely(book, question), list(itertools.product(range(15), repeat=3)))


class TestFormula(FormulaCase):
    def test_the_greatest_questions(self):
        texts = (": 0 ?a ?b ?c ?d ; 1 ?a ?e ?f ?g ; 2 ?a ?h ?i ?j ; 3 ?a ?k ?l ?m",
                 ": 0 ?a ?a ?a ?a ; 1 ?a ?a ?a ?a ; 2 ?a ?a ?a ?a ; 3 ?a ?a ?a ?a",
                 ": 0 1 2 3 4 ; 1 a b c d ; 2 5 6 7 8 ; 3 e f g h",
                 "?a ?b ?c ?d : 0 ?a ?b ?c ?d ; 1 ?d ?c ?b ?a ; 2 ?b ?a ?d ?c ; 3 ?c ?d ?a ?b")
        for keys, text in itertools.product(itertools.product(range(5), repeat=4), texts):
            tables = tuple([(4, key) for key in keys])
            question = read_question(tables, text)
            with self.subTest(tables=tables, text=text):
                if ring(tables, question) is None:
                    self.check_formula(tables, question)

    def test_made_without_the_rows(self):
        question = read_question(PAIRS, "?x : 0 ?x ?y ; 1 ?y ?z")
        formula = put_otherwise(PAIRS, question)
        for rows in ([], [(0, (1, 2))], [(0, (1, 2)), (1, (2, 3))], [(0, (1, 2)), (0, (1, 3)), (1, (2, 3))]):
            self.assertIs(plain_holds(formula, rows, {"x": 1}), rows[1:] == [(1, (2, 3))])

    def test_the_same_one_when_asked_again(self):
        question = read_question(PAIRS, "?x : 0 ?x ?y ; 1 ?y ?z ; 2 ?y 7")
        self.assertEqual(put_otherwise(PAIRS, question), put_otherwise(PAIRS, question))

    def test_names_of_formulas_meet_no_names_of_questions(self):
        # Such names as a formula may need beside the question's own: some, each, cell, same, row.
        rows = [(0, (1, 2, 2, 5)), (0, (1, 3, 3, 5)), (1, (2, 3)), (1, (3, 3))]
        book = book_of([(4, 1), (2, 1)], [], rows)
        self.check_told(book, "?some : 0 ?some ?each ?each ?cell ; 1 ?each ?same", [(1,)])
        self.check_told(book, "?cell : 0 ?row ?same ?same ?cell ; 1 ?same ?some", [(5,)])


class TestRefused(unittest.TestCase):
    def check_double(self, text, place):
        question = read_question(PAIRS, text)
        for ask in (lambda: put_otherwise(PAIRS, question), lambda: surely(book_of(PAIRS, [], []), question)):
            with self.subTest(text=text):
                with self.assertRaises(Double) as caught:
                    ask()
                self.assertEqual(caught.exception.place, place)

    def check_ring(self, text):
        question = read_question(PAIRS, text)
        book = book_of(PAIRS, [], [(0, (1, 1)), (1, (1, 1)), (2, (1, 1)), (3, (1, 1))])
        for ask in (lambda: put_otherwise(PAIRS, question), lambda: surely(book, question)):
            with self.subTest(text=text):
                with self.assertRaises(Ring) as caught:
                    ask()
                told = caught.exception.ring
                self.assertIs(type(told), list)
                self.assertTrue(is_ring(sways(PAIRS, question), told), told)

    def test_double(self):
        self.check_double(": 0 ?x ?y ; 0 ?y ?z", 1)
        self.check_double("?x : 0 ?x ?y ; 1 ?y ?z ; 0 ?x ?y", 2)
        self.check_double(": 2 ?x ?y ; 1 ?y ?z ; 0 ?x ?y ; 1 ?x ?x", 3)

    def test_ring(self):
        self.check_ring(": 0 ?x ?y ; 1 ?y ?x")
        self.check_ring(": 0 ?x ?z ; 1 ?y ?z")
        self.check_ring("?x : 0 ?x ?v ; 3 ?y ?w ; 2 ?u ?w")
        self.check_ring(": 0 ?x ?y ; 1 ?y ?z ; 2 ?z ?x")
        self.check_ring(": 0 ?a ?x ; 1 ?x ?y ; 2 ?b 7 ; 3 ?y ?x")

    def test_a_head_may_end_a_ring(self):
        for text in ("?x : 0 ?x ?y ; 1 ?y ?x", "?z : 0 ?x ?z ; 1 ?y ?z", "?y ?z : 0 ?x ?y ; 1 ?y ?z ; 2 ?z ?x"):
            self.assertIs(type(put_otherwise(PAIRS, read_question(PAIRS, text))), tuple)

    def test_double_ahead_of_ring(self):
        self.check_double(": 0 ?x ?y ; 1 ?y ?x ; 1 ?y ?x", 2)
        self.check_double(": 0 ?x ?y ; 1 ?y ?x ; 2 ?x 7 ; 0 ?y ?x", 3)

    def test_not_plain_ahead_of_all(self):
        for text in (": 0 ?x ?y", ": 0 ?x ?y ; 0 ?y ?x", ": 0 ?x ?y ; 1 ?y ?x", ": 0 ?x ?y ; 1 ?y ?x ; 0 ?x ?y"):
            question = read_question(PAIRS, text)
            for rows in ([], [(0, (1, number)) for number in range(20)]):
                with self.subTest(text=text, rows=len(rows)):
                    with self.assertRaises(NotPlain):
                        surely(book_of(PAIRS, [TIE], rows), question)

    def test_the_ring_that_is_told_is_the_askers_own(self):
        question = read_question(PAIRS, ": 0 ?x ?y ; 1 ?y ?x")
        told = []
        for time in range(2):
            with self.assertRaises(Ring) as caught:
                put_otherwise(PAIRS, question)
            told.append(sorted(caught.exception.ring))
            caught.exception.ring.clear()
        self.assertEqual(told, [[0, 1], [0, 1]])


class TestBySearch(FormulaCase):
    def check(self, chance, many):
        """A question by chance of so many atoms: what is found, or None where a ring is told."""
        tables, question = chance.single_question(many, 2)
        rings = plain_rings(tables, question)
        if rings:
            with self.subTest(tables=tables, question=question):
                with self.assertRaises(Ring) as caught:
                    put_otherwise(tables, question)
                self.assertIn(caught.exception.ring, rings)
            return None
        formula = self.check_formula(tables, question)
        seen = []
        for number in range(4):
            book = chance.planted_book(tables, question, 8)
            with self.subTest(book=book, question=question):
                seen.append(self.check_book(book, question, formula))
        return seen

    def check_book(self, book, question, formula):
        found = plain_found(book, question)
        certain = [answer for answer in found[0] if all(answer in here for here in found)]
        for answer in itertools.product((0, 1, "a", 9), repeat=len(question[0])):
            values = dict(zip(question[0], answer))
            self.assertIs(plain_holds(formula, book[2], values), answer in certain)
            self.assertIs(holds(formula, list(book[2]), values), answer in certain)
        self.assertEqual(surely(book, question), certain)
        self.assertEqual(sure(book, question), certain)
        return (len(certain) > 0, any(len(here) > len(certain) for here in found), len(found) > 1)

    def test_small_plain_books(self):
        for many in (1, 2, 3, 4):
            chance = Chance(60 + many)
            seen = {}
            for case in range(80):
                for kind in self.check(chance, many) or [None]:
                    seen[kind] = seen.get(kind, 0) + 1
            # Where there are several mended books: sure answers alone, others beside them, others alone.
            for kind in ((True, False, True), (True, True, True), (False, True, True)):
                self.assertGreater(seen.get(kind, 0), 3, (many, kind))
            self.assertEqual(None in seen, many > 1)


class TestHandedIn(unittest.TestCase):
    def test_what_is_handed_in_stays(self):
        tables = [(2, 1), (1, 1)]
        question = question_of(tables, ["x"], [(0, (("var", "x"), ("var", "y"))), (1, (("var", "y"),))])
        before = copy.deepcopy((tables, question, PEOPLE))
        put_otherwise(tables, question)
        surely(PEOPLE, question)
        self.assertEqual((tables, question, PEOPLE), before)

    def test_each_telling_is_its_own(self):
        question = read_question(PEOPLE[0], "?x : 0 ?x ?y")
        told = surely(PEOPLE, question)
        other = surely(PEOPLE, question)
        told.clear()
        self.assertEqual(other, [("ann",), ("bob",), ("cat",)])
        self.assertEqual(surely(PEOPLE, question), other)

    def test_as_sure_tells_it(self):
        self.assertEqual(len(mended(PEOPLE)), 4)
        for text in ("?x : 0 ?x ?y ; 1 ?y", "?y : 0 ?x ?y", ": 0 ?x 5 ; 1 5"):
            question = read_question(PEOPLE[0], text)
            self.assertEqual(surely(PEOPLE, question), sure(PEOPLE, question))


if __name__ == "__main__":
    unittest.main()
