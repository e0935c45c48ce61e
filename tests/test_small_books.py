"""Small books against a plain search over all sets of their rows [3, 7, 10, 11, 12].

The search here follows the words of the points alone, and uses nothing of the program but to make the books.
"""

import itertools
import random
import unittest

from mendsure.books import book_of
from mendsure.breaks import breaks, clashes, good, held
from mendsure.mends import is_mended, many_mended, mended, mended_at, mended_with

VALUES = [0, 1, 2, "a", "b"]
WORDS = ("same", "unlike", "less")


def side_value(side, rows):
    return side[1] if side[0] == "is" else rows[side[1]][1][side[2]]


def all_hold(tests, rows):
    for left, word, right in tests:
        one, other = side_value(left, rows), side_value(right, rows)
        numbers = isinstance(one, int) and isinstance(other, int)
        if not {"same": one == other, "unlike": one != other, "less": numbers and one < other}[word]:
            return False
    return True


def plain_breaks(book, some):
    tables, rules, rows = book
    found = set()
    for i, j in itertools.permutations(some, 2):
        pair = (min(i, j), max(i, j))
        if rows[i][0] == rows[j][0]:
            key = tables[rows[i][0]][1]
            if all(rows[i][1][column] == rows[j][1][column] for column in range(key)):
                found.add(("key",) + pair)
        for k, rule in enumerate(rules):
            if rule[0] == "apart" and rule[1:3] == (rows[i][0], rows[j][0]) and all_hold(rule[3], (rows[i], rows[j])):
                found.add(("apart",) + pair + (k,))
    for i, (k, rule) in itertools.product(some, enumerate(rules)):
        if rule[0] == "never" and rule[1] == rows[i][0] and all_hold(rule[2], (rows[i],)):
            found.add(("never", i, k))
        if rule[0] == "tie" and rule[1] == rows[i][0]:
            asked = [rows[i][1][column] for column in rule[2]]
            serving = [rows[j] for j in some if rows[j][0] == rule[3]]
            if asked not in [[row[1][column] for column in rule[4]] for row in serving]:
                found.add(("tie", i, k))
    return sorted(found)


def all_sets(rows):
    return [some for many in range(len(rows) + 1) for some in itertools.combinations(rows, many)]


def greatest(sets):
    """Those of the sets that no other one has wholly."""
    return sorted([one for one in sets if not any(set(one) < set(other) for other in sets)])


def plain_held(book, some):
    ok = [one for one in all_sets(some) if not any(found[0] in ("never", "tie") for found in plain_breaks(book, one))]
    told = greatest(ok)
    assert len(told) == 1
    return told[0]


def plain_clashes(book):
    told = plain_held(book, tuple(range(len(book[2]))))
    return sorted({one[1:3] for one in plain_breaks(book, told)})


def plain_mended(book):
    return greatest([some for some in all_sets(range(len(book[2]))) if not plain_breaks(book, some)])


class Chance:
    """Books by chance, the same ones each time."""

    def __init__(self, seed):
        self.chance = random.Random(seed)

    def side(self, wides):
        if self.chance.random() < 0.3:
            return ("is", self.chance.choice(VALUES))
        k = self.chance.randrange(len(wides))
        return ("cell", k, self.chance.randrange(wides[k]))

    def tests(self, wides):
        many = self.chance.choice((1, 1, 2, 3))
        return tuple([(self.side(wides), self.chance.choice(WORDS), self.side(wides)) for test in range(many)])

    def columns(self, wide, many):
        return tuple([self.chance.randrange(wide) for column in range(many)])

    def rule(self, tables, words):
        t, u = self.chance.randrange(len(tables)), self.chance.randrange(len(tables))
        wide, other = tables[t][0], tables[u][0]
        word = self.chance.choice(words)
        if word == "never":
            return ("never", t, self.tests([wide]))
        if word == "apart":
            return ("apart", t, u, self.tests([wide, other]))
        many = self.chance.choice((1, 1, 1, 2, 3))
        return ("tie", t, self.columns(wide, many), u, self.columns(other, many))

    def book(self, most_rows, words):
        tables = []
        for table in range(self.chance.choice((1, 2, 2, 3))):
            wide = self.chance.randint(1, 3)
            tables.append((wide, self.chance.randint(0, wide)))
        rules = [self.rule(tables, words) for rule in range(self.chance.randint(0, 4))]
        rows = {}
        for row in range(self.chance.randint(0, most_rows)):
            t = self.chance.randrange(len(tables))
            rows[(t, tuple([self.chance.choice(VALUES) for cell in range(tables[t][0])]))] = True
        return book_of(tables, rules, list(rows))


class TestSmallBooks(unittest.TestCase):
    def check_book(self, book):
        with self.subTest(book=book):
            expected = plain_mended(book)
            self.assertEqual(mended(book), expected)
            self.assertEqual(many_mended(book), len(expected))
            self.assertEqual([mended_at(book, number) for number in range(len(expected))], expected)
            self.assertEqual(clashes(book), plain_clashes(book))
            rows = tuple(range(len(book[2])))
            if plain_breaks(book, rows) == []:
                self.assertEqual(expected, [rows])
            return expected

    def check_sets(self, book, sets, expected):
        for some in sets:
            with self.subTest(book=book, some=some):
                found = plain_breaks(book, some)
                self.assertEqual(breaks(book, some), found)
                self.assertIs(good(book, some), found == [])
                self.assertEqual(held(book, some), plain_held(book, some))
                self.assertIs(is_mended(book, some), some in expected)
                first = [told for told in expected if set(some) <= set(told)][:1]
                self.assertEqual(mended_with(book, some), first[0] if first else None)

    def test_every_set_of_small_books(self):
        chance = Chance(1)
        for case in range(120):
            book = chance.book(5, ("never", "apart", "tie"))
            self.check_sets(book, all_sets(range(len(book[2]))), self.check_book(book))

    def test_somewhat_greater_books(self):
        chance = Chance(2)
        for words in (("never", "apart", "tie"), ("tie",), ("apart", "tie"), ("tie", "tie", "never")):
            for case in range(40):
                book = chance.book(8, words)
                sets = [tuple(range(len(book[2]))), tuple(range(0, len(book[2]), 2))]
                self.check_sets(book, sets, self.check_book(book))

    def test_all_books_of_one_table_and_a_tie(self):
        cells = list(itertools.product((0, 1), repeat=2))
        rules = [("tie", 0, (0,), 0, (1,)), ("tie", 0, (1,), 0, (0,)), ("tie", 0, (0, 1), 0, (1, 0))]
        for key, rule in itertools.product((0, 1, 2), rules):
            for some in all_sets(cells):
                self.check_book(book_of([(2, key)], [rule], [(0, row) for row in some]))


if __name__ == "__main__":
    unittest.main()
