"""Sure answers, which stand in each mended book, and maybe ones, which stand in one at least."""

from mendsure.mends import mended
from mendsure.questions import marked_answers, term_with
from mendsure.values import in_order


def marks_of(book, told):
    """Of each row of a book its mark: bit k is set where the row stands in the mended book k of those told."""
    marks = [0 for row in book[2]]
    for place, rows in enumerate(told):
        for i in rows:
            marks[i] |= 1 << place
    return marks


def found_in(book, told, question):
    """The answers of a question that stand in some of the mended books told, as a dict of their marks."""
    return marked_answers(book[2], marks_of(book, told), question)


def sure(book, question):
    """The sure answers, in their order, each once."""
    told = mended(book)
    everywhere = (1 << len(told)) - 1
    return in_order([answer for answer, mark in found_in(book, told, question).items() if mark == everywhere])


def maybe(book, question):
    """The maybe answers, in their order, each once."""
    return in_order(list(found_in(book, mended(book), question)))


def atom_with(atom, values):
    """An atom with the values that are told for some of its names in their places."""
    return (atom[0], tuple([term_with(term, values) for term in atom[1]]))


def asked_of(question, answer):
    """The question without a head that asks whether a tuple is an answer of a question."""
    values = dict(zip(question[0], answer))
    return ((), tuple([atom_with(atom, values) for atom in question[1]]))


def mended_by_answer(book, question, answer):
    """Two lists of mended books, in their order: those in which a tuple is no answer, and those in which it is one."""
    told = mended(book)
    mark = found_in(book, told, asked_of(question, answer)).get((), 0)
    parted = ([], [])
    for place, rows in enumerate(told):
        parted[(mark >> place) & 1].append(rows)
    return parted


def first_of(told):
    """The first of some sets of rows, or None."""
    return told[0] if told else None


def failing(book, question, answer):
    """The first mended book in which a tuple is no answer, or None."""
    return first_of(mended_by_answer(book, question, answer)[0])


def standing(book, question, answer):
    """The first mended book in which a tuple is an answer, or None."""
    return first_of(mended_by_answer(book, question, answer)[1])


def odds(book, question, answer):
    """In how many mended books a tuple is an answer, and how many there are."""
    parted = mended_by_answer(book, question, answer)
    return (len(parted[1]), len(parted[0]) + len(parted[1]))
