"""What is known to an atom, which atoms sway one another, and rings of them [2, 21, 22]."""

import copy
import itertools
import unittest

from mendsure.errors import Double
from mendsure.questions import question_of
from mendsure.sways import known, ring, sways
from mendsure.wording import read_question

from plain_search import Chance, is_ring, plain_known, plain_rings, plain_sways

PAIRS = ((2, 1), (2, 1), (2, 1), (2, 1))


class SwaysCase(unittest.TestCase):
    def check_known(self, tables, text, expected):
        question = read_question(tables, text)
        with self.subTest(tables=tables, text=text):
            told = [known(tables, question, number) for number in range(len(question[1]))]
            self.assertEqual(told, expected)
            self.assertEqual([type(names) for names in told], [list] * len(told))

    def check_sways(self, tables, text, expected):
        question = read_question(tables, text)
        with self.subTest(tables=tables, text=text):
            told = sways(tables, question)
            self.assertEqual(told, expected)
            self.assertIs(type(told), list)
            self.assertEqual([type(pair) for pair in told], [tuple] * len(told))

    def check_ring(self, tables, text, expected):
        """A ring is told just where one is expected, and it is one."""
        question = read_question(tables, text)
        with self.subTest(tables=tables, text=text):
            told = ring(tables, question)
            if not expected:
                self.assertIsNone(told)
                return
            self.assertIs(type(told), list)
            self.assertEqual([type(number) for number in told], [int] * len(told))
            self.assertTrue(is_ring(sways(tables, question), told), told)


class TestKnown(SwaysCase):
    def test_an_atoms_own_key_names(self):
        self.check_known(PAIRS, ": 0 ?x ?y", [["x"]])
        self.check_known(PAIRS, ": 0 ?x ?x", [["x"]])
        self.check_known(PAIRS, ": 0 7 ?x", [[]])
        self.check_known(PAIRS, ": 0 ?x 7", [["x"]])
        self.check_known(PAIRS, ": 0 7 ann", [[]])

    def test_not_what_the_atom_itself_would_add(self):
        self.check_known(PAIRS, ": 0 ?x ?y ; 1 ?y ?z", [["x"], ["y"]])

    def test_what_another_atom_adds(self):
        self.check_known(PAIRS, ": 0 ?x ?y ; 1 ?x ?z", [["x", "z"], ["x", "y"]])

    def test_another_atom_with_values_in_its_key(self):
        self.check_known(PAIRS, ": 0 ?x ?y ; 1 7 ?z", [["x", "z"], []])

    def test_in_several_steps_whatever_the_order(self):
        self.check_known(PAIRS, ": 0 ?x ?a ; 1 ?x ?y ; 2 ?y ?z ; 3 ?z ?w",
                         [["w", "x", "y", "z"], ["a", "x"], ["y"], ["z"]])
        self.check_known(PAIRS, ": 3 ?z ?w ; 2 ?y ?z ; 1 ?x ?y ; 0 ?x ?a",
                         [["z"], ["y"], ["a", "x"], ["w", "x", "y", "z"]])
        self.check_known(PAIRS, ": 0 ?x ?a ; 3 ?z ?w ; 1 ?x ?y ; 2 ?y ?z",
                         [["w", "x", "y", "z"], ["z"], ["a", "x"], ["y"]])

    def test_all_key_names_are_asked_for(self):
        tables = ((2, 1), (3, 2), (2, 1))
        self.check_known(tables, ": 0 ?x ?y ; 1 ?x ?y ?z", [["x"], ["x", "y"]])
        self.check_known(tables, ": 0 ?x ?y ; 1 ?x ?w ?z", [["x"], ["w", "x", "y"]])
        self.check_known(tables, ": 0 ?x ?y ; 1 ?x ?w ?z ; 2 ?x ?w", [["w", "x", "z"], ["w", "x", "y"], ["x", "y"]])

    def test_the_heads_names_are_values(self):
        self.check_known(PAIRS, "?x : 0 ?x ?y", [[]])
        self.check_known(PAIRS, "?y : 0 ?x ?y", [["x"]])
        self.check_known(PAIRS, "?x ?y : 0 ?x ?y", [[]])
        self.check_known(PAIRS, "?x : 0 ?x ?y ; 1 ?y ?z", [[], ["y"]])
        self.check_known(PAIRS, "?y : 0 ?x ?y ; 1 ?y ?z", [["x", "z"], []])
        self.check_known(PAIRS, "?x : 0 ?x ?y ; 1 ?z ?x", [[], ["y", "z"]])

    def test_keys_of_none_to_all_columns(self):
        for key, expected in enumerate([[], ["a"], ["a", "b"], ["a", "b", "c"], ["a", "b", "c", "d"]]):
            self.check_known(((4, key),), ": 0 ?a ?b ?c ?d", [expected])
            self.check_known(((4, key),), ": 0 ?d ?c ?b ?a", [sorted("dcba"[:key])])
        self.check_known(((2, 0), (2, 1)), ": 0 ?x ?y ; 1 ?z ?w", [[], ["x", "y", "z"]])
        self.check_known(((2, 2), (2, 1)), ": 0 ?x ?y ; 1 ?y ?w", [["w", "x", "y"], ["y"]])

    def test_sorted(self):
        tables = ((4, 4), (4, 0))
        self.check_known(tables, ": 0 ?zz ?b ?aa ?z ; 1 ?c ?ab ?b ?a", [["a", "aa", "ab", "b", "c", "z", "zz"], []])


class TestSways(SwaysCase):
    def test_one_atom_sways_none(self):
        for key in range(3):
            self.check_sways(((2, key),), ": 0 ?x ?y", [])

    def test_by_a_name_that_is_not_known(self):
        self.check_sways(PAIRS, ": 0 ?x ?y ; 1 ?y ?z", [(0, 1)])
        self.check_sways(PAIRS, ": 1 ?y ?z ; 0 ?x ?y", [(1, 0)])
        self.check_sways(PAIRS, ": 0 ?x ?y ; 1 ?y ?x", [(0, 1), (1, 0)])
        self.check_sways(PAIRS, ": 0 ?x ?z ; 1 ?y ?z", [(0, 1), (1, 0)])

    def test_not_by_known_names(self):
        self.check_sways(PAIRS, ": 0 ?x ?y ; 1 ?x ?y", [])
        self.check_sways(PAIRS, ": 0 ?x ?y ; 1 ?x ?z", [])

    def test_not_by_values(self):
        self.check_sways(PAIRS, ": 0 ?x 7 ; 1 ?y 7", [])
        self.check_sways(PAIRS, ": 0 ?x ann ; 1 ann ?y", [])

    def test_through_other_atoms(self):
        self.check_sways(PAIRS, ": 0 ?x ?y ; 1 ?y ?z ; 2 ?z ?w", [(0, 1), (0, 2), (1, 2)])
        self.check_sways(PAIRS, ": 2 ?z ?w ; 0 ?x ?y ; 3 ?w 1 ; 1 ?y ?z",
                         [(0, 2), (1, 0), (1, 2), (1, 3), (3, 0), (3, 2)])

    def test_a_name_on_the_way_that_the_first_one_knows(self):
        # 1 and 2 have only z in common, which is known to 0 by 3, but not to 1; 3 knows all names.
        self.check_sways(PAIRS, ": 0 ?x ?y ; 1 ?y ?z ; 2 ?z ?w ; 3 ?x ?z", [(0, 1), (1, 0), (1, 2), (1, 3)])

    def test_the_heads_names_are_values(self):
        self.check_sways(PAIRS, "?y : 0 ?x ?y ; 1 ?y ?z", [])
        self.check_sways(PAIRS, "?z : 0 ?x ?z ; 1 ?y ?z", [])
        self.check_sways(PAIRS, "?x : 0 ?x ?y ; 1 ?y ?x", [(0, 1)])
        self.check_sways(PAIRS, "?x : 0 ?y ?x ; 1 ?x ?y", [(1, 0)])

    def test_keys_of_no_columns_and_of_all(self):
        self.check_sways(((2, 0), (2, 0)), ": 0 ?x ?y ; 1 ?y ?z", [])
        self.check_sways(((2, 0), (2, 1)), ": 0 ?x ?y ; 1 ?y ?z", [(0, 1)])
        self.check_sways(((2, 2), (2, 1)), ": 0 ?x ?y ; 1 ?y ?z", [])
        self.check_sways(((2, 2), (2, 1)), ": 0 ?x ?y ; 1 ?z ?y", [(1, 0)])


class TestRing(SwaysCase):
    def test_none(self):
        for text in (": 0 ?x ?y", ": 0 ?x ?y ; 1 ?y ?z", ": 0 ?x ?y ; 1 ?x ?y", ": 0 ?x 7 ; 1 ?y 7",
                     "?x : 0 ?x ?y ; 1 ?y ?x", ": 0 ?x ?y ; 1 ?y ?z ; 2 ?z ?w ; 3 ?w ?v"):
            self.check_ring(PAIRS, text, False)

    def test_rings_of_two(self):
        for text in (": 0 ?x ?y ; 1 ?y ?x", ": 0 ?x ?z ; 1 ?y ?z", ": 3 ?x ?z ; 0 ?y ?z"):
            self.check_ring(PAIRS, text, True)
            self.assertEqual(sorted(ring(PAIRS, read_question(PAIRS, text))), [0, 1])

    def test_rings_among_others(self):
        self.check_ring(PAIRS, ": 0 ?u ?v ; 1 ?x ?z ; 2 ?y ?z", True)
        self.check_ring(PAIRS, ": 0 ?u ?x ; 1 ?x ?z ; 2 ?v 7 ; 3 ?y ?z", True)

    def test_atoms_that_lead_round(self):
        self.check_ring(PAIRS, ": 0 ?x ?y ; 1 ?y ?z ; 2 ?z ?x", True)
        self.check_ring(PAIRS, ": 0 ?x ?y ; 1 ?y ?z ; 2 ?z ?w ; 3 ?w ?x", True)
        self.check_ring(PAIRS, "?x : 0 ?x ?y ; 1 ?y ?z ; 2 ?z ?x", False)

    def test_the_same_one_when_asked_again(self):
        question = read_question(PAIRS, ": 0 ?x ?y ; 1 ?y ?z ; 2 ?z ?w ; 3 ?w ?x")
        self.assertEqual(ring(PAIRS, question), ring(PAIRS, question))


class TestDouble(SwaysCase):
    def check_double(self, text, place):
        question = read_question(PAIRS, text)
        asked = [lambda: sways(PAIRS, question), lambda: ring(PAIRS, question)]
        asked.extend([lambda number=number: known(PAIRS, question, number) for number in range(len(question[1]))])
        for ask in asked:
            with self.subTest(text=text):
                with self.assertRaises(Double) as caught:
                    ask()
                self.assertEqual(caught.exception.place, place)

    def test_the_first_atom_whose_table_an_earlier_one_has(self):
        self.check_double(": 0 ?x ?y ; 0 ?x ?y", 1)
        self.check_double(": 0 ?x ?y ; 0 ?y ?z", 1)
        self.check_double(": 3 ?x ?y ; 0 ?y ?z ; 3 ?z ?w", 2)
        self.check_double(": 1 ?x ?y ; 0 ?y ?z ; 2 ?z ?w ; 0 7 8", 3)

    def test_several_such_atoms(self):
        self.check_double(": 0 ?x ?y ; 1 ?y ?z ; 1 ?z ?x ; 0 ?a ?b", 2)
        self.check_double(": 2 ?x ?y ; 2 ?y ?z ; 2 ?z ?x ; 2 ?a ?b", 1)
        self.check_double(": 0 ?x ?y ; 0 ?y ?z ; 1 ?z ?x ; 1 ?a ?b", 1)

    def test_ahead_of_a_ring(self):
        self.check_double(": 0 ?x ?y ; 1 ?y ?x ; 0 ?x ?y", 2)

    def test_names_of_the_head_change_nothing(self):
        self.check_double("?x ?y : 0 ?x ?y ; 0 ?x ?y", 1)

    def test_one_table_among_several_atoms_is_enough(self):
        for text in (": 0 ?x ?y ; 1 ?y ?z ; 2 ?x ?z", ": 3 ?x ?y ; 2 ?y ?z ; 1 ?x ?z ; 0 ?x ?x"):
            sways(PAIRS, read_question(PAIRS, text))


class TestBySearch(unittest.TestCase):
    def check(self, tables, question):
        """Whether there is a ring, where all is told as a plain search finds it."""
        with self.subTest(tables=tables, question=question):
            for number in range(len(question[1])):
                self.assertEqual(known(tables, question, number), plain_known(tables, question, number))
            pairs = plain_sways(tables, question)
            self.assertEqual(sways(tables, question), pairs)
            told = ring(tables, question)
            self.assertEqual(told is None, not plain_rings(tables, question))
            self.assertTrue(told is None or is_ring(pairs, told))
        return told is not None

    def test_questions_of_three_and_four_atoms(self):
        chance = Chance(53)
        seen = {}
        for case in range(700):
            many = 3 + case % 2
            tables, question = chance.single_question(many, 2)
            kind = (many, len(question[0]) > 0, self.check(tables, question))
            seen[kind] = seen.get(kind, 0) + 1
        # Among them are rings and none, with a head and without.
        for kind in itertools.product((3, 4), (True, False), (True, False)):
            self.assertGreater(seen[kind], 3)

    def test_all_small_questions_of_two_atoms(self):
        terms = [("var", "x"), ("var", "y"), ("var", "z"), ("is", 7)]
        shapes = [((wide, key), some) for wide in (1, 2) for key in range(wide + 1)
                  for some in itertools.product(terms, repeat=wide)]
        rings = 0
        for (one, first), (other, second) in itertools.product(shapes, repeat=2):
            tables = (one, other)
            for head in ((), ("x",)):
                if ("var", "x") in first + second or not head:
                    rings += self.check(tables, question_of(tables, head, [(0, first), (1, second)]))
        self.assertGreater(rings, 0)


class TestHandedIn(unittest.TestCase):
    def test_what_is_handed_in_stays(self):
        tables = [(2, 1), (2, 1)]
        question = question_of(tables, ["x"], [(0, (("var", "x"), ("var", "y"))), (1, (("var", "y"), ("is", 7)))])
        before = copy.deepcopy((tables, question))
        told = (known(tables, question, 0), sways(tables, question), ring(tables, question))
        self.assertEqual(told, ([], [(0, 1)], None))
        self.assertEqual((tables, question), before)

    def test_each_telling_is_its_own(self):
        question = read_question(PAIRS, ": 0 ?x ?y ; 1 ?y ?x")
        for ask in (lambda: known(PAIRS, question, 0), lambda: sways(PAIRS, question), lambda: ring(PAIRS, question)):
            told = ask()
            other = ask()
            expected = copy.deepcopy(other)
            told.append("more")
            told.pop(0)
            self.assertEqual(other, expected)
            self.assertEqual(ask(), expected)


if __name__ == "__main__":
    unittest.main()
