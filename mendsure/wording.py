"""How questions are written, and read."""

from mendsure.errors import NoText
from mendsure.questions import question_of
from mendsure.texts import read_value, show_value, writes_number
from mendsure.values import is_name


def show_term(term):
    """The piece that writes a term."""
    return "?" + term[1] if term[0] == "var" else show_value(term[1])


def show_atom(atom):
    """The pieces that write an atom, with blanks between."""
    return " ".join([show_value(atom[0])] + [show_term(term) for term in atom[1]])


def show_question(question):
    """The text that writes a question."""
    head = ["?" + name for name in question[0]]
    return " ".join(head + [":", " ; ".join([show_atom(atom) for atom in question[1]])])


def read_name(piece):
    """The name that a piece writes, with ? ahead."""
    if not piece.startswith("?") or not is_name(piece[1:]):
        raise NoText("a piece is not ? and a name")
    return piece[1:]


def read_term(piece):
    """The term that a piece writes."""
    if piece.startswith("?"):
        return ("var", read_name(piece))
    return ("is", read_value(piece))


def read_atom(pieces):
    """The atom, or what is written like one, of a number's piece and those of terms."""
    if len(pieces) == 0 or not writes_number(pieces[0]):
        raise NoText("an atom doesn't begin with a number")
    return (read_value(pieces[0]), tuple([read_term(piece) for piece in pieces[1:]]))


def parted_at(pieces, sign):
    """The lists of pieces ahead of, between and behind those that are a sign."""
    parts = [[]]
    for piece in pieces:
        if piece == sign:
            parts.append([])
        else:
            parts[-1].append(piece)
    return parts


def read_question(tables, text):
    """The question for these tables that a text writes."""
    if not isinstance(text, str):
        raise NoText("what is no text writes no question")
    # Two blanks in a row, and one at an end, leave an empty piece, which writes nothing and is refused as any other.
    halves = parted_at(text.split(" "), ":")
    if len(halves) != 2:
        raise NoText("a question has one piece : in it")
    head = [read_name(piece) for piece in halves[0]]
    atoms = [read_atom(pieces) for pieces in parted_at(halves[1], ";")]
    return question_of(tables, head, atoms)
