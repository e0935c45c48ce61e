"""Which atoms of a question sway one another, by the keys of their tables."""

from mendsure.errors import Double
from mendsure.questions import names_in


def check_tables_once(question):
    """Refuse a question in which a table stands twice."""
    seen = {}
    for place, atom in enumerate(question[1]):
        if atom[0] in seen:
            raise Double(place)
        seen[atom[0]] = True


def free_names(question, atom):
    """The names among an atom's terms, without those of the head, which count as values."""
    return [name for name in names_in([atom]) if name not in question[0]]


def key_names(tables, question, atom):
    """The names among the terms of an atom's key, without those of the head."""
    key = tables[atom[0]][1]
    return free_names(question, (atom[0], atom[1][:key]))


def known_at(tables, question, place):
    """The names that are known to the atom at a place, as a dict of True."""
    atoms = question[1]
    others = atoms[:place] + atoms[place + 1:]
    names = dict([(name, True) for name in key_names(tables, question, atoms[place])])
    before = -1
    # What one atom adds may be what another one waits for, so it is looked again until nothing comes.
    while before < len(names):
        before = len(names)
        for other in others:
            if all([name in names for name in key_names(tables, question, other)]):
                names.update(dict([(name, True) for name in free_names(question, other)]))
    return names


def known(tables, question, atom):
    """What is known to the atom of a number, sorted."""
    check_tables_once(question)
    return sorted(known_at(tables, question, atom))


def have_in_common(some, others):
    """Whether a name stands in both of two lists."""
    return any([name in others for name in some])


def swayed_from(tables, question, place):
    """The numbers of the atoms to which a list of atoms leads from the one at a place, that one among them."""
    learnt = known_at(tables, question, place)
    unknown = [[name for name in free_names(question, atom) if name not in learnt] for atom in question[1]]
    reached = {place: True}
    waiting = [place]
    while waiting:
        names = unknown[waiting.pop()]
        for other in range(len(unknown)):
            if other not in reached and have_in_common(names, unknown[other]):
                reached[other] = True
                waiting.append(other)
    return list(reached)


def sways(tables, question):
    """The pairs (a, b) of unlike atoms, by number, of which a sways b, sorted."""
    check_tables_once(question)
    pairs = []
    for a in range(len(question[1])):
        pairs.extend([(a, b) for b in swayed_from(tables, question, a) if b != a])
    return sorted(pairs)


def ring(tables, question):
    """A ring of atoms, each of which sways the next one, the last one the first, or None.

    Where a sways b and b sways c, a sways c too or b sways a: a name that b reaches on its way to c and that is known
    to a can be followed back from b to a key name of a. So every ring can be made shorter, down to one of two atoms.
    """
    pairs = sways(tables, question)
    for a, b in pairs:
        if (b, a) in pairs:
            return [a, b]
    return None
