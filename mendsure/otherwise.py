"""Questions put otherwise: a formula that the broken book itself answers, as all its mended books would."""

from mendsure.blocks import is_plain
from mendsure.errors import NotPlain, Ring
from mendsure.formulas import Reading
from mendsure.questions import answers, names_in
from mendsure.sways import ring, sways


def in_turn(tables, question):
    """The atoms of a question that has no ring, each ahead of all those that it sways."""
    pairs = sways(tables, question)
    left = list(range(len(question[1])))
    ordered = []
    while left:
        unswayed = [b for b in left if not any([(a, b) in pairs for a in left])]
        ordered.extend(unswayed)
        left = [b for b in left if b not in unswayed]
    return [question[1][place] for place in ordered]


def is_new(term, named):
    """Whether a term is a name that has no value yet."""
    return term[0] == "var" and term[1] not in named


def stand_in(term, named):
    """A term, or, where it is a name without a value, a name that nothing else has, so that it stays without one."""
    return ("var", "some " + term[1]) if is_new(term, named) else term


def parts_for(tables, atom, named):
    """The parts of a formula, without their inner ones, that ask for an atom, where some names have a value.

    Some row must have the atom's key, and each row with this key must be the atom: for any of them may be the one that
    a mended book keeps. So each of them gives the names that are new their values, and what else stands in the atom is
    asked of it cell by cell; among the terms of each it would only leave rows out.
    """
    t = atom[0]
    key = tables[t][1]
    in_key = atom[1][:key]
    named_now = named + names_in([(t, in_key)])
    first = ("some", t, in_key + tuple([stand_in(term, named_now) for term in atom[1][key:]]))
    cells = []
    sames = []
    for column, term in enumerate(atom[1][key:]):
        if is_new(term, named_now):
            cells.append(term)
            named_now.append(term[1])
        else:
            cells.append(("var", f"cell {t} {column}"))
            sames.append(("same", cells[-1], term))
    return [first, ("each", t, in_key + tuple(cells))] + sames


def put_otherwise(tables, question):
    """A formula that holds of all rows of a plain book of these tables for just the sure answers of a question.

    An atom that none of the others sways can be asked for first: some key serves it in each mended book. With its names
    given values no atom sways another one that it didn't sway before, so the others follow in the same manner.
    """
    found = ring(tables, question)
    if found is not None:
        raise Ring(found)
    named = list(question[0])
    parts = []
    for atom in in_turn(tables, question):
        parts.extend(parts_for(tables, atom, named))
        named.extend(names_in([atom]))
    formula = ("yes",)
    for part in reversed(parts):
        formula = part + (formula,)
    return formula


def surely(book, question):
    """The sure answers of a plain book, in their order, each once, without going through its mended books."""
    if not is_plain(book):
        raise NotPlain("only of a plain book can a question be put otherwise")
    reading = Reading(put_otherwise(book[0], question), book[2])
    head = question[0]
    return [answer for answer in answers(book[2], question) if reading.holds_with(dict(zip(head, answer)))]
