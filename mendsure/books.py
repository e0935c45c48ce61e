"""Books: how one is made of tables, rules and rows, and what is refused."""

from mendsure.errors import NoRow, NoRule, NoTable, TooGreat, Twice
from mendsure.values import is_value, is_whole

MOST_TABLES = 4
MOST_RULES = 6
MOST_ROWS = 60
MOST_WIDE = 4
MOST_TESTS = 3
MOST_TIED = 3
WORDS = ("same", "unlike", "less")


def is_tuple(thing, least, most):
    """Whether a thing is a tuple of at least and at most so many parts."""
    return isinstance(thing, tuple) and least <= len(thing) <= most


def is_number_below(thing, bound):
    """Whether a thing is a whole number from 0 on, below the bound."""
    return is_whole(thing) and 0 <= thing < bound


def is_table(thing):
    """Whether a thing is a table (wide, key)."""
    if not is_tuple(thing, 2, 2) or not is_whole(thing[0]):
        return False
    wide = thing[0]
    return 1 <= wide <= MOST_WIDE and is_number_below(thing[1], wide + 1)


def is_side(thing, wides):
    """Whether a thing is a side of a test, where the rows that are looked at have these widths."""
    if is_tuple(thing, 2, 2):
        return thing[0] == "is" and is_value(thing[1])
    if not is_tuple(thing, 3, 3) or thing[0] != "cell":
        return False
    return is_number_below(thing[1], len(wides)) and is_number_below(thing[2], wides[thing[1]])


def is_test(thing, wides):
    """Whether a thing is a test (left, word, right)."""
    if not is_tuple(thing, 3, 3):
        return False
    return is_side(thing[0], wides) and thing[1] in WORDS and is_side(thing[2], wides)


def are_tests(thing, wides):
    """Whether a thing is a tuple of as many tests as a rule may have."""
    return is_tuple(thing, 1, MOST_TESTS) and all([is_test(part, wides) for part in thing])


def are_columns(thing, wide):
    """Whether a thing is a tuple of as many columns as a tie may have, of a table of this width."""
    return is_tuple(thing, 1, MOST_TIED) and all([is_number_below(part, wide) for part in thing])


def is_never(rule, tables):
    """Whether a tuple is a rule ("never", t, tests)."""
    if len(rule) != 3 or not is_number_below(rule[1], len(tables)):
        return False
    return are_tests(rule[2], [tables[rule[1]][0]])


def is_apart(rule, tables):
    """Whether a tuple is a rule ("apart", t, u, tests)."""
    if len(rule) != 4 or not all([is_number_below(part, len(tables)) for part in rule[1:3]]):
        return False
    return are_tests(rule[3], [tables[part][0] for part in rule[1:3]])


def is_tie(rule, tables):
    """Whether a tuple is a rule ("tie", t, columns, u, others)."""
    if len(rule) != 5:
        return False
    for number, columns in ((rule[1], rule[2]), (rule[3], rule[4])):
        if not is_number_below(number, len(tables)) or not are_columns(columns, tables[number][0]):
            return False
    return len(rule[2]) == len(rule[4])


def is_rule(thing, tables):
    """Whether a thing is a rule for these tables."""
    if not isinstance(thing, tuple) or len(thing) == 0:
        return False
    if thing[0] == "never":
        return is_never(thing, tables)
    if thing[0] == "apart":
        return is_apart(thing, tables)
    return thing[0] == "tie" and is_tie(thing, tables)


def is_row(thing, tables):
    """Whether a thing is a row (t, cells) of one of these tables."""
    if not is_tuple(thing, 2, 2) or not is_number_below(thing[0], len(tables)):
        return False
    wide = tables[thing[0]][0]
    return is_tuple(thing[1], wide, wide) and all([is_value(cell) for cell in thing[1]])


def check_sizes(tables, rules, rows):
    """Refuse more parts than a book may have."""
    if len(tables) > MOST_TABLES or len(rules) > MOST_RULES or len(rows) > MOST_ROWS:
        raise TooGreat("more tables, rules or rows than a book may have")


def check_tables(tables):
    """Refuse the first part that is no table, and that there is none."""
    if len(tables) == 0:
        raise NoTable(0)
    for place, table in enumerate(tables):
        if not is_table(table):
            raise NoTable(place)


def check_rules(tables, rules):
    """Refuse the first part that is no rule."""
    for place, rule in enumerate(rules):
        if not is_rule(rule, tables):
            raise NoRule(place)


def check_rows(tables, rows):
    """Refuse the first part that is no row, and only then the first that is alike an earlier one."""
    for place, row in enumerate(rows):
        if not is_row(row, tables):
            raise NoRow(place)
    seen = {}
    for place, row in enumerate(rows):
        if row in seen:
            raise Twice(place)
        seen[row] = True


def book_of(tables, rules, rows):
    """A book (tables, rules, rows), of three lists or tuples."""
    check_sizes(tables, rules, rows)
    check_tables(tables)
    check_rules(tables, rules)
    check_rows(tables, rows)
    return (tuple(tables), tuple(rules), tuple(rows))
