"""A plain search, and books by chance, to hold the program against.

The search follows the words of the points alone, and uses nothing of the program but to make books and questions, and
to put answers in order.
"""

import itertools
import random

from mendsure.books import book_of
from mendsure.questions import question_of
from mendsure.values import in_order

VALUES = [0, 1, 2, "a", "b"]
WORDS = ("same", "unlike", "less")


def side_value(side, rows):
    return side[1] if side[0] == "is" else rows[side[1]][1][side[2]]


def all_hold(tests, rows):
    for left, word, right in tests:
        one, other = side_value(left, rows), side_value(right, rows)
        numbers = isinstance(one, int) and isinstance(other, int)
        if not {"same": one == other, "unlike": one != other, "less": numbers and one < other}[word]:
            return False
    return True


def plain_breaks(book, some):
    tables, rules, rows = book
    found = set()
    for i, j in itertools.permutations(some, 2):
        pair = (min(i, j), max(i, j))
        if rows[i][0] == rows[j][0]:
            key = tables[rows[i][0]][1]
            if all(rows[i][1][column] == rows[j][1][column] for column in range(key)):
                found.add(("key",) + pair)
        for k, rule in enumerate(rules):
            if rule[0] == "apart" and rule[1:3] == (rows[i][0], rows[j][0]) and all_hold(rule[3], (rows[i], rows[j])):
                found.add(("apart",) + pair + (k,))
    for i, (k, rule) in itertools.product(some, enumerate(rules)):
        if rule[0] == "never" and rule[1] == rows[i][0] and all_hold(rule[2], (rows[i],)):
            found.add(("never", i, k))
        if rule[0] == "tie" and rule[1] == rows[i][0]:
            asked = [rows[i][1][column] for column in rule[2]]
            serving = [rows[j] for j in some if rows[j][0] == rule[3]]
            if asked not in [[row[1][column] for column in rule[4]] for row in serving]:
                found.add(("tie", i, k))
    return sorted(found)


def all_sets(rows):
    return [some for many in range(len(rows) + 1) for some in itertools.combinations(rows, many)]


def greatest(sets):
    """Those of the sets that no other one has wholly."""
    return sorted([one for one in sets if not any(set(one) < set(other) for other in sets)])


def plain_held(book, some):
    ok = [one for one in all_sets(some) if not any(found[0] in ("never", "tie") for found in plain_breaks(book, one))]
    told = greatest(ok)
    assert len(told) == 1
    return told[0]


def plain_clashes(book):
    told = plain_held(book, tuple(range(len(book[2]))))
    return sorted({one[1:3] for one in plain_breaks(book, told)})


def plain_mended(book):
    return greatest([some for some in all_sets(range(len(book[2]))) if not plain_breaks(book, some)])


def plain_answers(rows, question):
    """The answers as point 15 defines them: all ways to make each atom a row are tried."""
    head, atoms = question
    found = []
    for picked in itertools.product(rows, repeat=len(atoms)):
        values = {}
        fits = True
        for (t, terms), (table, cells) in zip(atoms, picked):
            fits = fits and t == table
            for (word, thing), cell in zip(terms, cells):
                fits = fits and (values.setdefault(thing, cell) if word == "var" else thing) == cell
        if fits:
            found.append(tuple([values[name] for name in head]))
    return in_order(found)


def plain_found(book, question):
    """The answers in each mended book, in their order."""
    return [plain_answers([book[2][i] for i in rows], question) for rows in plain_mended(book)]


class Chance:
    """Books and questions by chance, the same ones each time."""

    def __init__(self, seed):
        self.chance = random.Random(seed)

    def side(self, wides):
        if self.chance.random() < 0.3:
            return ("is", self.chance.choice(VALUES))
        k = self.chance.randrange(len(wides))
        return ("cell", k, self.chance.randrange(wides[k]))

    def tests(self, wides):
        many = self.chance.choice((1, 1, 2, 3))
        return tuple([(self.side(wides), self.chance.choice(WORDS), self.side(wides)) for test in range(many)])

    def columns(self, wide, many):
        return tuple([self.chance.randrange(wide) for column in range(many)])

    def rule(self, tables, words):
        t, u = self.chance.randrange(len(tables)), self.chance.randrange(len(tables))
        wide, other = tables[t][0], tables[u][0]
        word = self.chance.choice(words)
        if word == "never":
            return ("never", t, self.tests([wide]))
        if word == "apart":
            return ("apart", t, u, self.tests([wide, other]))
        many = self.chance.choice((1, 1, 1, 2, 3))
        return ("tie", t, self.columns(wide, many), u, self.columns(other, many))

    def book(self, most_rows, words):
        tables = []
        for table in range(self.chance.choice((1, 2, 2, 3))):
            wide = self.chance.randint(1, 3)
            tables.append((wide, self.chance.randint(0, wide)))
        rules = [self.rule(tables, words) for rule in range(self.chance.randint(0, 4 if words else 0))]
        rows = {}
        for row in range(self.chance.randint(0, most_rows)):
            t = self.chance.randrange(len(tables))
            rows[(t, tuple([self.chance.choice(VALUES) for cell in range(tables[t][0])]))] = True
        return book_of(tables, rules, list(rows))

    def term(self, things):
        if self.chance.random() < 0.2:
            return ("is", self.chance.choice(things))
        return ("var", self.chance.choice("vwxyz"))

    def question(self, tables, most_atoms, things=VALUES):
        atoms = []
        for atom in range(self.chance.randint(1, most_atoms)):
            t = self.chance.randrange(len(tables))
            atoms.append((t, tuple([self.term(things) for term in range(tables[t][0])])))
        names = sorted({thing for t, terms in atoms for word, thing in terms if word == "var"})
        return question_of(tables, self.chance.sample(names, self.chance.randint(0, min(4, len(names)))), atoms)
