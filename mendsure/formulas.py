"""Formulas, and whether one holds of some rows."""

from mendsure.questions import fitting, names_in, term_with


def parts_of(formula):
    """The parts of a formula, the outermost one first, without the yes at its end."""
    parts = []
    inner = formula
    while inner[0] != "yes":
        parts.append(inner)
        inner = inner[-1]
    return parts


def names_among(parts):
    """The names that stand in some parts of a formula, each once."""
    return names_in([(part[0], part[1:3] if part[0] == "same" else part[2]) for part in parts])


def cells_by_table(rows):
    """The cells of the rows of each table, as a dict of lists."""
    cells = {}
    for t, some in rows:
        cells.setdefault(t, []).append(some)
    return cells


def ways_of(part, cells, values):
    """The dicts of values by names with which a part asks its inner formula."""
    if part[0] == "same":
        return [values] if term_with(part[1], values) == term_with(part[2], values) else []
    terms = [term_with(term, values) for term in part[2]]
    ways = []
    for some in cells.get(part[1], []):
        fit = fitting(terms, some)
        if fit is not None:
            both = dict(values)
            both.update(fit)
            ways.append(both)
    return ways


class Reading:
    """A formula that is read of some rows, once or again with other values.

    Whether the parts from a place on hold hangs on nothing but the values of the names in them. What was found of a
    place and such values is kept: else a formula of many parts would be read as often as its rows can be combined.
    """

    def __init__(self, formula, rows):
        self.steps = parts_of(formula)
        self.asked = [names_among(self.steps[place:]) for place in range(len(self.steps))]
        self.cells = cells_by_table(rows)
        self.found = {}

    def enter(self, trail, values):
        """Whether the parts behind the trail hold with these values, or None, where the next one joins the trail."""
        place = len(trail)
        if place == len(self.steps):
            return True
        state = (place, tuple([values.get(name) for name in self.asked[place]]))
        if state in self.found:
            return self.found[state]
        trail.append((state, ways_of(self.steps[place], self.cells, values)))
        return None

    def holds_with(self, values):
        """Whether the formula holds with these values for some names."""
        # The trail has the parts that are being read, each with the ways that it has not yet tried: calls within
        # calls would go as deep as the formula does.
        trail = []
        told = self.enter(trail, values)
        while trail:
            state = trail[-1][0]
            ways = trail[-1][1]
            settles = self.steps[state[0]][0] != "each"
            if told != settles and ways:
                told = self.enter(trail, ways.pop())
            else:
                if told != settles:
                    told = not settles
                self.found[state] = told
                trail.pop()
        return told


def holds(formula, rows, values):
    """Whether a formula holds of some rows, with a dict of values by names."""
    return Reading(formula, rows).holds_with(values)
