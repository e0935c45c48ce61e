"""Rules, and what each kind of them tells of rows."""

from mendsure.values import is_whole


def side_value(side, looked_at):
    """The value of a test's side, of the rows that are looked at."""
    if side[0] == "is":
        return side[1]
    return looked_at[side[1]][1][side[2]]


def fulfils(looked_at, test):
    """Whether a test holds of the rows that are looked at."""
    left = side_value(test[0], looked_at)
    right = side_value(test[2], looked_at)
    if test[1] == "same":
        return left == right
    if test[1] == "unlike":
        return left != right
    # less speaks of numbers alone, so a name is neither below anything nor above it.
    return is_whole(left) and is_whole(right) and left < right


def fulfils_all(looked_at, tests):
    """Whether all tests hold of the rows that are looked at."""
    return all([fulfils(looked_at, test) for test in tests])


def cells_in(row, columns):
    """The cells of a row in some columns, in their order."""
    return [row[1][column] for column in columns]


class Rule:
    """A rule that lets everything stand; each kind of rule says otherwise in the one method that is its own."""

    def __init__(self, parts):
        self.parts = parts

    def bars(self, row):
        """Whether the rule lets this row not stand by itself."""
        return False

    def parts_them(self, row, other):
        """Whether the rule lets these two unlike rows not stand together, either one as row 0."""
        return False

    def lacks(self, row, rows):
        """Whether the rule ties this row to a row, and none of these rows is one."""
        return False


class Never(Rule):
    """("never", t, tests)"""

    def bars(self, row):
        """Whether the row is of the table, and all tests hold of it."""
        return row[0] == self.parts[1] and fulfils_all([row], self.parts[2])


class Apart(Rule):
    """("apart", t, u, tests)"""

    def parts_in_turn(self, row, other):
        """Whether the tests hold with the first one as row 0."""
        if row[0] != self.parts[1] or other[0] != self.parts[2]:
            return False
        return fulfils_all([row, other], self.parts[3])

    def parts_them(self, row, other):
        """Whether the tests hold of the two rows, one way about or the other."""
        return self.parts_in_turn(row, other) or self.parts_in_turn(other, row)


class Tie(Rule):
    """("tie", t, columns, u, others)"""

    def lacks(self, row, rows):
        """Whether the row is of the tied table, and none of the rows has the cells that it asks for."""
        if row[0] != self.parts[1]:
            return False
        asked = cells_in(row, self.parts[2])
        for other in rows:
            if other[0] == self.parts[3] and cells_in(other, self.parts[4]) == asked:
                return False
        return True


def rule_of(parts):
    """The rule that these parts tell, as an object of its kind."""
    if parts[0] == "never":
        return Never(parts)
    if parts[0] == "apart":
        return Apart(parts)
    return Tie(parts)
