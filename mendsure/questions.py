"""Questions: how one is made, what is refused, and its answers in some rows."""

from mendsure.books import is_number_below, is_tuple
from mendsure.errors import NoQuestion
from mendsure.values import in_order, is_name, is_value

MOST_ATOMS = 4
MOST_NAMES = 4
# All bits of -1 are set, so it is the mark of what stands in every set of rows, however many there are.
EVERYWHERE = -1


def is_term(thing):
    """Whether a thing is a term."""
    if not is_tuple(thing, 2, 2):
        return False
    if thing[0] == "var":
        return is_name(thing[1])
    return thing[0] == "is" and is_value(thing[1])


def is_atom(thing, tables):
    """Whether a thing is an atom (t, terms) for these tables."""
    if not is_tuple(thing, 2, 2) or not is_number_below(thing[0], len(tables)):
        return False
    wide = tables[thing[0]][0]
    return is_tuple(thing[1], wide, wide) and all([is_term(term) for term in thing[1]])


def names_in(atoms):
    """The names that stand in some atoms, in the order in which they come, each once."""
    names = {}
    for atom in atoms:
        for term in atom[1]:
            if term[0] == "var":
                names[term[1]] = True
    return list(names)


def is_head(things, atoms):
    """Whether some things are names that a question of these atoms may have as its head."""
    # What stands in an atom is a name, so nothing else gets by.
    standing = names_in(atoms)
    if len(things) > MOST_NAMES or not all([thing in standing for thing in things]):
        return False
    return len(set(things)) == len(things)


def listed(thing):
    """Whether a thing is a list or a tuple; a text could be walked too, letter by letter."""
    return isinstance(thing, (list, tuple))


def question_of(tables, head, atoms):
    """A question (head, atoms) for these tables, of a list or tuple of names and one of atoms."""
    if not listed(atoms):
        raise NoQuestion(0)
    for place, atom in enumerate(atoms):
        if not is_atom(atom, tables):
            raise NoQuestion(place)
    if not 1 <= len(atoms) <= MOST_ATOMS or not listed(head) or not is_head(head, atoms):
        raise NoQuestion(len(atoms))
    return (tuple(head), tuple(atoms))


def term_with(term, values):
    """A term, or the value that is told for its name."""
    if term[0] == "var" and term[1] in values:
        return ("is", values[term[1]])
    return term


def fitting(terms, cells):
    """The values by names with which the terms are these cells, as a dict, or None."""
    values = {}
    for term, cell in zip(terms, cells):
        expected = values.setdefault(term[1], cell) if term[0] == "var" else term[1]
        if expected != cell:
            return None
    return values


def fits_of(rows, marks, atom):
    """Of each row that an atom can be the dict of values by names with which it is this row, and the row's mark."""
    fits = [(fitting(atom[1], row[1]), mark) for row, mark in zip(rows, marks) if row[0] == atom[0]]
    return [(values, mark) for values, mark in fits if values is not None]


def values_at(values, names):
    """The values of some names, as a tuple."""
    return tuple([values[name] for name in names])


def cut(fits, names):
    """What the fits say of these names alone, each once, with all marks of those that say it."""
    told = {}
    for values, mark in fits:
        some = values_at(values, names)
        told[some] = told.get(some, 0) | mark
    return [(dict(zip(names, some)), mark) for some, mark in told.items()]


def joined(fits, others, shared):
    """Each fit together with each of the others that has the same values for the shared names, and marks in common."""
    by_shared = {}
    for more, other in others:
        by_shared.setdefault(values_at(more, shared), []).append((more, other))
    together = []
    for values, mark in fits:
        for more, other in by_shared.get(values_at(values, shared), []):
            if mark & other:
                both = dict(values)
                both.update(more)
                together.append((both, mark & other))
    return together


def marked_answers(rows, marks, question):
    """The answers of a question in several sets of rows at once, as a dict of their marks.

    A mark is a number whose bits tell in which of the sets something stands. Rows have theirs; what several rows make
    together stands where they all do, and an answer wherever one way to make it stands. So one walk does for all sets.

    The atoms are gone through one by one. A name that nothing behind asks for is cut off at once: else the fits would
    grow by as many times as there are rows for each atom.
    """
    head = question[0]
    atoms = question[1]
    known = []
    fits = [({}, EVERYWHERE)]
    for place, atom in enumerate(atoms):
        own = names_in([atom])
        shared = [name for name in own if name in known]
        asked = list(head) + names_in(atoms[place + 1:])
        others = cut(fits_of(rows, marks, atom), [name for name in own if name in shared or name in asked])
        new = [name for name in own if name not in shared]
        known = [name for name in known + new if name in asked]
        fits = cut(joined(fits, others, shared), known)
    return dict([(values_at(values, head), mark) for values, mark in fits])


def answers(rows, question):
    """The answers of a question in some rows, in their order, each once."""
    return in_order(list(marked_answers(rows, [1 for row in rows], question)))
