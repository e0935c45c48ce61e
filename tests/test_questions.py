"""How a question is made, what is refused, and its answers in some rows [2, 13, 14, 15]."""

import copy
import itertools
import random
import unittest

from mendsure.errors import MendError, NoQuestion
from mendsure.questions import answers, question_of

from plain_search import plain_answers

TABLES = [(2, 1), (3, 0), (1, 1)]
GREATEST = int("9" * 30)


def var(name):
    return ("var", name)


def value(thing):
    return ("is", thing)


def atom(t, *terms):
    """An atom of terms, a text with ? ahead being a name."""
    return (t, tuple([var(term[1:]) if str(term).startswith("?") else value(term) for term in terms]))


ATOM = atom(0, "?x", "?y")
THINGS = [None, 0, 1, -1, True, False, "", "x", "xy", (), (0,), ("x",), (None,), ((),), 10 ** 100]


class QuestionCase(unittest.TestCase):
    def check_made(self, head, atoms):
        with self.subTest(head=head, atoms=atoms):
            for some_head, some_atoms in itertools.product((list(head), tuple(head)), (list(atoms), tuple(atoms))):
                for tables in (TABLES, tuple(TABLES)):
                    told = question_of(tables, some_head, some_atoms)
                    self.assertEqual(told, (tuple(head), tuple(atoms)))
                    self.assertEqual([type(part) for part in (told,) + told], [tuple] * 3)

    def check_refused(self, place, head, atoms):
        with self.subTest(head=head, atoms=atoms):
            with self.assertRaises(MendError) as caught:
                question_of(TABLES, head, atoms)
            self.assertIs(type(caught.exception), NoQuestion)
            self.assertEqual(caught.exception.place, place)

    def check_no_atom(self, thing):
        self.check_refused(0, [], [thing])
        self.check_refused(0, ("x",), (thing, ATOM, thing))
        self.check_refused(2, ["x"], [ATOM, ATOM, thing, ATOM])
        self.check_refused(4, ["x"], [ATOM, ATOM, ATOM, ATOM, thing])


class TestMade(QuestionCase):
    def test_without_a_head(self):
        self.check_made([], [ATOM])
        self.check_made([], [atom(2, 7)])

    def test_with_a_head(self):
        self.check_made(["x"], [ATOM])
        self.check_made(["y", "x"], [ATOM])
        self.check_made(["z", "a", "x"], [ATOM, atom(1, "?a", 5, "?x"), atom(2, "?z")])

    def test_the_head_goes_up_to_four_names(self):
        atoms = [atom(0, "?a", "?b"), atom(1, "?c", "?d", "?e")]
        self.check_made(["e", "c", "a", "d"], atoms)
        self.check_refused(2, ["a", "b", "c", "d", "e"], atoms)

    def test_from_one_atom_to_four(self):
        for many in (1, 2, 3, 4):
            self.check_made(["x"], [ATOM] * many)
        for many in (5, 6, 9):
            self.check_refused(many, ["x"], [ATOM] * many)
        self.check_refused(0, [], [])
        self.check_refused(0, (), ())
        self.check_refused(0, ["x"], [])

    def test_all_values_and_names(self):
        for name in ("a", "zzzzzzzz", "var", "is"):
            self.check_made([name], [(2, (var(name),))])
        for thing in (0, -1, GREATEST, -GREATEST, "a", "zzzzzzzz", "var"):
            self.check_made([], [(2, (value(thing),))])

    def test_a_table_twice_and_a_name_many_times(self):
        self.check_made(["x"], [atom(1, "?x", "?x", "?x"), atom(1, "?x", "?x", "?x")])

    def test_what_is_handed_in_stays_and_is_not_the_question(self):
        parts = [list(TABLES), ["x", "y"], [ATOM, atom(2, "?x")]]
        before = copy.deepcopy(parts)
        question = question_of(*parts)
        self.assertEqual(parts, before)
        for part in parts:
            part.clear()
        self.assertEqual(question, (("x", "y"), (ATOM, atom(2, "?x"))))

    def test_what_is_refused_stays(self):
        parts = [list(TABLES), ["x", "x"], [ATOM, ATOM]]
        before = copy.deepcopy(parts)
        with self.assertRaises(NoQuestion):
            question_of(*parts)
        self.assertEqual(parts, before)


class TestNoAtom(QuestionCase):
    def test_tables(self):
        for t in (-1, 3, 4, None, True, False, "0", "a", (), (0,)):
            for wide in (1, 2, 3):
                self.check_no_atom((t, (var("x"),) * wide))

    def test_how_many_terms(self):
        for t in range(3):
            for wide in range(6):
                terms = (var("x"),) * wide
                if wide == TABLES[t][0]:
                    self.check_made(["x"], [(t, terms)])
                else:
                    self.check_no_atom((t, terms))

    def test_terms(self):
        forms = [("var",), ("is",), ("var", "x", "y"), ("is", 1, 1), ("Var", "x"), ("cell", 0), ("x", "var"), (1, "is")]
        for thing in THINGS + forms:
            self.check_no_atom((0, (thing, var("x"))))
            self.check_no_atom((0, (var("x"), thing)))

    def test_names_that_are_none(self):
        for thing in (None, 0, 7, True, "", "abcdefghi", "X", "x1", "?x", "x ", "x\n", (), ("x",)):
            self.check_no_atom((0, (var(thing), var("x"))))

    def test_values_that_are_none(self):
        for thing in (None, True, False, "", "abcdefghi", "X", "x1", "?x", "7", (), (1,), GREATEST + 1, -GREATEST - 1):
            self.check_no_atom((0, (var("x"), value(thing))))

    def test_other_things(self):
        for thing in THINGS + [ATOM[1], (0,), ATOM + (0,), (ATOM,), (0, ATOM), (0, "xy"), (0, None), (ATOM[1], 0)]:
            self.check_no_atom(thing)

    def test_the_first_one_is_told(self):
        self.check_refused(1, [], [ATOM, None, ATOM, None])


class TestNoHead(QuestionCase):
    def test_what_is_no_name(self):
        for thing in THINGS + ["X", "x1", "?x", "abcdefghi", "x ", ("var", "x")]:
            if thing != "x":
                self.check_refused(1, [thing], [ATOM])
                self.check_refused(2, ("x", thing), (ATOM, ATOM))

    def test_two_alike(self):
        self.check_refused(1, ["x", "x"], [ATOM])
        self.check_refused(3, ["x", "y", "x"], [ATOM, ATOM, ATOM])

    def test_a_name_that_stands_in_no_atom(self):
        self.check_refused(1, ["z"], [ATOM])
        self.check_refused(2, ["x", "z"], [ATOM, atom(2, "z")])
        self.check_refused(1, ["var"], [ATOM])
        self.check_refused(1, ["x"], [atom(2, 7)])

    def test_a_bad_atom_is_told_ahead_of_a_bad_head(self):
        self.check_refused(1, ["z", "z", None], [ATOM, None])
        self.check_refused(5, ["z"], [ATOM] * 5 + [None])

    def test_what_is_no_list_at_all(self):
        for thing in (None, 0, 7, True, "", "x", "xy"):
            self.check_refused(1, thing, [ATOM])
            self.check_refused(0, ["x"], thing)
            self.check_refused(0, thing, [None])


class TestAnswers(unittest.TestCase):
    ROWS = [
        (0, ("ann", 3)), (0, ("bob", 10)), (0, ("ann", "bob")), (0, (3, 3)), (0, ("cat", 3)),
        (1, (3, "ann", "bob")), (1, (10, "ann", "cat")), (1, (3, 3, 3)), (2, ("ann",)), (2, (3,)),
    ]

    def check(self, head, atoms, expected, rows=None):
        rows = self.ROWS if rows is None else rows
        with self.subTest(head=head, atoms=atoms, rows=rows):
            question = question_of(TABLES, head, atoms)
            told = answers(rows, question)
            self.assertEqual(told, expected)
            self.assertIs(type(told), list)
            self.assertEqual([type(one) for one in told], [tuple] * len(expected))
            self.assertEqual(plain_answers(rows, question), expected)

    def test_in_order(self):
        self.check(["x"], [atom(0, "?x", "?y")], [(3,), ("ann",), ("bob",), ("cat",)])
        self.check(["y"], [atom(0, "?x", "?y")], [(3,), (10,), ("bob",)])
        self.check(["x", "y"], [atom(0, "?x", "?y")],
                   [(3, 3), ("ann", 3), ("ann", "bob"), ("bob", 10), ("cat", 3)])
        self.check(["y", "x"], [atom(0, "?x", "?y")],
                   [(3, 3), (3, "ann"), (3, "cat"), (10, "bob"), ("bob", "ann")])

    def test_without_a_head(self):
        self.check([], [atom(0, "?x", "?y")], [()])
        self.check([], [atom(0, "cat", 3)], [()])
        self.check([], [atom(0, "cat", 4)], [])
        self.check([], [atom(0, "?x", "?x"), atom(2, "?x")], [()])
        self.check([], [atom(0, "?x", 10), atom(2, "?x")], [])

    def test_values(self):
        self.check(["x"], [atom(0, "?x", 3)], [(3,), ("ann",), ("cat",)])
        self.check(["y"], [atom(0, "ann", "?y")], [(3,), ("bob",)])
        self.check(["y"], [atom(0, "dan", "?y")], [])

    def test_a_name_twice_in_an_atom(self):
        self.check(["x"], [atom(0, "?x", "?x")], [(3,)])
        self.check(["x"], [atom(1, "?x", "?x", "?y")], [(3,)])
        self.check(["x"], [atom(1, "?x", "?y", "?y")], [(3,)])

    def test_a_name_in_several_atoms(self):
        self.check(["x", "z"], [atom(0, "?x", "?y"), atom(1, "?y", "?x", "?z")], [(3, 3), ("ann", "bob")])
        self.check(["y"], [atom(2, "?x"), atom(0, "?x", "?y")], [(3,), ("bob",)])
        self.check(["y"], [atom(0, "?x", "?y"), atom(2, "?x")], [(3,), ("bob",)])

    def test_a_table_that_stands_twice(self):
        self.check(["x", "z"], [atom(0, "?x", "?y"), atom(0, "?y", "?z")],
                   [(3, 3), ("ann", 3), ("ann", 10), ("cat", 3)])
        self.check(["x", "z"], [atom(0, "?x", 3), atom(0, "?z", "bob")], [(3, "ann"), ("ann", "ann"), ("cat", "ann")])

    def test_both_atoms_may_be_one_row(self):
        self.check(["x", "z"], [atom(2, "?x"), atom(2, "?z")], [(3, 3), (3, 7), (7, 3), (7, 7)], [(2, (7,)), (2, (3,))])

    def test_atoms_without_a_name_in_common(self):
        self.check(["x"], [atom(2, "?x"), atom(1, 10, "?y", "?z")], [(3,), ("ann",)])
        self.check(["x"], [atom(2, "?x"), atom(1, 11, "?y", "?z")], [])
        self.check(["x"], [atom(1, 11, "?y", "?z"), atom(2, "?x")], [])

    def test_rows_told_twice(self):
        twice = [row for row in self.ROWS for again in range(2)] + self.ROWS
        self.check(["x"], [atom(0, "?x", 3)], [(3,), ("ann",), ("cat",)], twice)
        self.check([], [atom(0, "?x", 3)], [()], twice)
        self.check(["x", "y"], [atom(2, "?x"), atom(2, "?y")], [(3, 3), (3, "ann"), ("ann", 3), ("ann", "ann")], twice)

    def test_no_rows(self):
        self.check(["x"], [atom(0, "?x", "?y")], [], [])
        self.check([], [atom(0, 1, 2)], [], [])

    def test_rows_of_other_tables(self):
        self.check(["x"], [atom(0, "?x", "?y")], [], [(1, (1, 2, 3)), (2, (1,))])
        self.check([], [atom(2, 1)], [], [(0, (1, 1)), (1, (1, 1, 1))])

    def test_the_names_of_words(self):
        self.check(["var", "is"], [atom(0, "?is", "?var")], [(3, "is")], [(0, ("is", 3))])

    def test_random_rows_and_questions(self):
        chance = random.Random(11)
        things = [0, 1, 10, "a", "b"]
        for case in range(400):
            rows = []
            for number in range(chance.randint(0, 9)):
                t = chance.randrange(3)
                rows.append((t, tuple([chance.choice(things) for cell in range(TABLES[t][0])])))
            atoms = []
            for number in range(chance.randint(1, 4)):
                t = chance.randrange(3)
                terms = [chance.choice(["?v", "?w", "?x", "?y", "?z", chance.choice(things)]) for cell in range(3)]
                atoms.append(atom(t, *terms[:TABLES[t][0]]))
            names = sorted({thing for t, terms in atoms for word, thing in terms if word == "var"})
            head = chance.sample(names, chance.randint(0, min(4, len(names))))
            question = question_of(TABLES, head, atoms)
            with self.subTest(rows=rows, question=question):
                self.assertEqual(answers(rows, question), plain_answers(rows, question))

    def test_names_that_nothing_asks_for_do_not_multiply(self):
        rows = [(0, (number, number)) for number in range(300)]
        question = question_of(TABLES, ["a"], [atom(0, "?" + name, "?" + name * 2) for name in "abcd"])
        self.assertEqual(answers(rows, question), [(number,) for number in range(300)])
        question = question_of(TABLES, [], [atom(0, "?" + name, "?" + name * 2) for name in "abcd"])
        self.assertEqual(answers(rows, question), [()])

    def test_what_is_handed_in_stays(self):
        rows = [(0, (2, 1)), (0, (1, 1)), (0, (2, 1))]
        question = question_of(TABLES, ["x"], [ATOM])
        before = copy.deepcopy((rows, question))
        told = answers(rows, question)
        self.assertEqual((rows, question), before)
        rows.clear()
        self.assertEqual(told, [(1,), (2,)])

    def test_each_telling_is_its_own(self):
        question = question_of(TABLES, [], [ATOM])
        told = answers([(0, (1, 1))], question)
        other = answers([(0, (1, 1))], question)
        told.clear()
        self.assertEqual(other, [()])
        self.assertEqual(answers([(0, (1, 1))], question), [()])


if __name__ == "__main__":
    unittest.main()
