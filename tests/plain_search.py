"""A plain search, and books by chance, to hold the program against.

The search follows the words of the points alone, and uses nothing of the program but to make books and questions, and
to put answers in order.
"""

import itertools
import random

from mendsure.books import book_of
from mendsure.questions import question_of
from mendsure.values import in_order

VALUES = [0, 1, 2, "a", "b"]
WORDS = ("same", "unlike", "less")


def side_value(side, rows):
    return side[1] if side[0] == "is" else rows[side[1]][1][side[2]]


def all_hold(tests, rows):
    for left, word, right in tests:
        one, other = side_value(left, rows), side_value(right, rows)
        numbers = isinstance(one, int) and isinstance(other, int)
        if not {"same": one == other, "unlike": one != other, "less": numbers and one < other}[word]:
            return False
    return True


def plain_breaks(book, some):
    tables, rules, rows = book
    found = set()
    for i, j in itertools.permutations(some, 2):
        pair = (min(i, j), max(i, j))
        if rows[i][0] == rows[j][0]:
            key = tables[rows[i][0]][1]
            if all(rows[i][1][column] == rows[j][1][column] for column in range(key)):
                found.add(("key",) + pair)
        for k, rule in enumerate(rules):
            if rule[0] == "apart" and rule[1:3] == (rows[i][0], rows[j][0]) and all_hold(rule[3], (rows[i], rows[j])):
                found.add(("apart",) + pair + (k,))
    for i, (k, rule) in itertools.product(some, enumerate(rules)):
        if rule[0] == "never" and rule[1] == rows[i][0] and all_hold(rule[2], (rows[i],)):
            found.add(("never", i, k))
        if rule[0] == "tie" and rule[1] == rows[i][0]:
            asked = [rows[i][1][column] for column in rule[2]]
            serving = [rows[j] for j in some if rows[j][0] == rule[3]]
            if asked not in [[row[1][column] for column in rule[4]] for row in serving]:
                found.add(("tie", i, k))
    return sorted(found)


def all_sets(rows):
    return [some for many in range(len(rows) + 1) for some in itertools.combinations(rows, many)]


def greatest(sets):
    """Those of the sets that no other one has wholly."""
    return sorted([one for one in sets if not any(set(one) < set(other) for other in sets)])


def plain_held(book, some):
    ok = [one for one in all_sets(some) if not any(found[0] in ("never", "tie") for found in plain_breaks(book, one))]
    told = greatest(ok)
    assert len(told) == 1
    return told[0]


def plain_clashes(book):
    told = plain_held(book, tuple(range(len(book[2]))))
    return sorted({one[1:3] for one in plain_breaks(book, told)})


def plain_mended(book):
    return greatest([some for some in all_sets(range(len(book[2]))) if not plain_breaks(book, some)])


def plain_answers(rows, question):
    """The answers as point 15 defines them: all ways to make each atom a row are tried."""
    head, atoms = question
    found = []
    for picked in itertools.product(*[[cells for table, cells in rows if table == t] for t, terms in atoms]):
        values = {}
        fits = True
        for (t, terms), cells in zip(atoms, picked):
            for (word, thing), cell in zip(terms, cells):
                fits = fits and (values.setdefault(thing, cell) if word == "var" else thing) == cell
        if fits:
            found.append(tuple([values[name] for name in head]))
    return in_order(found)


def plain_found(book, question):
    """The answers in each mended book, in their order."""
    return [plain_answers([book[2][i] for i in rows], question) for rows in plain_mended(book)]


def names_of(terms, head=()):
    return {thing for word, thing in terms if word == "var" and thing not in head}


def plain_known(tables, question, place):
    """The least of all sets of names that are as point 21 asks, as a sorted list."""
    head, atoms = question
    parts = [(names_of(terms[:tables[t][1]], head), names_of(terms, head)) for t, terms in atoms]
    names = sorted(set().union(*[own for key, own in parts]))
    others = parts[:place] + parts[place + 1:]
    closed = []
    for some in map(set, all_sets(names)):
        if parts[place][0] <= some and all(own <= some for key, own in others if key <= some):
            closed.append(some)
    return sorted(set.intersection(*closed))


def plain_sways(tables, question):
    """The pairs of which the first one sways the second: all lists of atoms between them are tried."""
    head, atoms = question
    found = set()
    for many in range(2, len(atoms) + 1):
        for way in itertools.permutations(range(len(atoms)), many):
            learnt = set(plain_known(tables, question, way[0]))
            steps = [names_of(atoms[a][1], head) & names_of(atoms[b][1], head) for a, b in zip(way, way[1:])]
            if all(step - learnt for step in steps):
                found.add((way[0], way[-1]))
    return sorted(found)


def is_ring(pairs, some):
    """Whether some numbers are a ring by these pairs."""
    steps = zip(some, some[1:] + some[:1])
    return len(some) >= 2 and len(set(some)) == len(some) and all(step in pairs for step in steps)


def plain_rings(tables, question):
    """All rings of two or more atoms."""
    pairs = plain_sways(tables, question)
    numbers = range(len(question[1]))
    lists = [list(some) for many in numbers for some in itertools.permutations(numbers, many + 1)]
    return [some for some in lists if is_ring(pairs, some)]


def plain_fit(terms, cells, values):
    """The values with which a row fits terms, those that were there among them, or None."""
    grown = dict(values)
    for (word, thing), cell in zip(terms, cells):
        if (grown.setdefault(thing, cell) if word == "var" else thing) != cell:
            return None
    return grown


def plain_holds(formula, rows, values):
    """Whether a formula holds, word by word as point 23 says."""
    if formula == ("yes",):
        return True
    if formula[0] == "same":
        one, other = [thing if word == "is" else values[thing] for word, thing in formula[1:3]]
        return one == other and plain_holds(formula[3], rows, values)
    fits = [plain_fit(formula[2], cells, values) for t, cells in rows if t == formula[1]]
    found = [plain_holds(formula[3], rows, grown) for grown in fits if grown is not None]
    return any(found) if formula[0] == "some" else all(found)


class Chance:
    """Books, questions and formulas by chance, the same ones each time."""

    def __init__(self, seed):
        self.chance = random.Random(seed)

    def side(self, wides):
        if self.chance.random() < 0.3:
            return ("is", self.chance.choice(VALUES))
        k = self.chance.randrange(len(wides))
        return ("cell", k, self.chance.randrange(wides[k]))

    def tests(self, wides):
        many = self.chance.choice((1, 1, 2, 3))
        return tuple([(self.side(wides), self.chance.choice(WORDS), self.side(wides)) for test in range(many)])

    def columns(self, wide, many):
        return tuple([self.chance.randrange(wide) for column in range(many)])

    def rule(self, tables, words):
        t, u = self.chance.randrange(len(tables)), self.chance.randrange(len(tables))
        wide, other = tables[t][0], tables[u][0]
        word = self.chance.choice(words)
        if word == "never":
            return ("never", t, self.tests([wide]))
        if word == "apart":
            return ("apart", t, u, self.tests([wide, other]))
        many = self.chance.choice((1, 1, 1, 2, 3))
        return ("tie", t, self.columns(wide, many), u, self.columns(other, many))

    def book(self, most_rows, words):
        tables = []
        for table in range(self.chance.choice((1, 2, 2, 3))):
            wide = self.chance.randint(1, 3)
            tables.append((wide, self.chance.randint(0, wide)))
        rules = [self.rule(tables, words) for rule in range(self.chance.randint(0, 4 if words else 0))]
        rows = {}
        for row in range(self.chance.randint(0, most_rows)):
            t = self.chance.randrange(len(tables))
            rows[(t, tuple([self.chance.choice(VALUES) for cell in range(tables[t][0])]))] = True
        return book_of(tables, rules, list(rows))

    def term(self, things, names="vwxyz", share=0.2):
        if self.chance.random() < share:
            return ("is", self.chance.choice(things))
        return ("var", self.chance.choice(names))

    def question(self, tables, most_atoms, things=VALUES):
        atoms = []
        for atom in range(self.chance.randint(1, most_atoms)):
            t = self.chance.randrange(len(tables))
            atoms.append((t, tuple([self.term(things) for term in range(tables[t][0])])))
        names = sorted({thing for t, terms in atoms for word, thing in terms if word == "var"})
        return question_of(tables, self.chance.sample(names, self.chance.randint(0, min(4, len(names)))), atoms)

    def single_question(self, many, most_head):
        """Tables, and a question of so many atoms, each of a table of its own."""
        # Rings need tables with cells behind their keys, so half of the questions have no others.
        some = [(2, 1), (2, 1), (3, 1), (3, 2)] + self.chance.choice(([], [(1, 0), (1, 1), (2, 0), (2, 2), (3, 3)]))
        tables = [self.chance.choice(some) for table in range(self.chance.randint(many, 4))]
        names = self.chance.choice(("uvwxyz", "vwxyz"))
        atoms = []
        for t in self.chance.sample(range(len(tables)), many):
            atoms.append((t, tuple([self.term([0, 1], names, 0.1) for term in range(tables[t][0])])))
        standing = sorted(set().union(*[names_of(terms) for t, terms in atoms]))
        head = self.chance.sample(standing, self.chance.randint(0, min(most_head, len(standing))))
        return tuple(tables), question_of(tables, head, atoms)

    def planted_book(self, tables, question, most_rows):
        """A plain book in which the question's atoms are made rows now and then, so that it has answers at times."""
        rows = {}
        while len(rows) < most_rows and self.chance.random() < 0.85:
            values = {name: self.chance.choice([0, 1]) for t, terms in question[1] for name in sorted(names_of(terms))}
            for t, terms in question[1]:
                cells = [values[thing] if word == "var" else thing for word, thing in terms]
                if self.chance.random() < 0.15:
                    cells[self.chance.randrange(len(cells))] = self.chance.choice([0, 1, "a"])
                rows[(t, tuple(cells))] = True
        picked = list(rows)[:most_rows]
        self.chance.shuffle(picked)
        return book_of(tables, [], picked)

    def formula(self, tables, named, most_parts):
        """A formula of at most so many parts; the names of a same have a value already."""
        named = list(named)
        parts = []
        for part in range(self.chance.randint(0, most_parts)):
            if self.chance.random() < 0.25:
                sides = [("is", thing) for thing in VALUES] + [("var", name) for name in named] * 4
                parts.append(("same", self.chance.choice(sides), self.chance.choice(sides)))
            else:
                t = self.chance.randrange(len(tables))
                terms = tuple([self.term(VALUES) for term in range(tables[t][0])])
                parts.append((self.chance.choice(("some", "each")), t, terms))
                named.extend(sorted(names_of(terms)))
        formula = ("yes",)
        for part in reversed(parts):
            formula = part + (formula,)
        return formula
