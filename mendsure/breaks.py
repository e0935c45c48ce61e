"""What breaks a set of rows, which of its rows are held, and which rows of a book clash."""

from mendsure.rules import rule_of


def rules_of(book):
    """The rules of a book, as objects."""
    return [rule_of(parts) for parts in book[1]]


def all_rows(book):
    """The set of all rows of a book."""
    return tuple(range(len(book[2])))


def pairs_of(rows):
    """The pairs (i, j) of a set of rows, i below j, sorted."""
    pairs = []
    for place, i in enumerate(rows):
        pairs.extend([(i, j) for j in rows[place + 1:]])
    return pairs


def key_of(tables, row):
    """A row's table and the cells of its key: rows for which these are the same never stand together."""
    return (row[0], row[1][:tables[row[0]][1]])


def breaks_of_one(book, rules, rows, i):
    """The breaks that row i of a set has by itself, or for want of another one in the set."""
    row = book[2][i]
    within = [book[2][j] for j in rows]
    barred = [("never", i, k) for k, rule in enumerate(rules) if rule.bars(row)]
    return barred + [("tie", i, k) for k, rule in enumerate(rules) if rule.lacks(row, within)]


def breaks_of_two(book, rules, i, j):
    """The breaks that two rows have because they stand together, i below j."""
    row = book[2][i]
    other = book[2][j]
    parted = [("apart", i, j, k) for k, rule in enumerate(rules) if rule.parts_them(row, other)]
    if key_of(book[0], row) == key_of(book[0], other):
        parted.append(("key", i, j))
    return parted


def breaks(book, rows):
    """The breaks of a set of rows, sorted, each once."""
    rules = rules_of(book)
    found = []
    for i in rows:
        found.extend(breaks_of_one(book, rules, rows, i))
    for i, j in pairs_of(rows):
        found.extend(breaks_of_two(book, rules, i, j))
    return sorted(found)


def good(book, rows):
    """Whether a set of rows has no breaks."""
    return len(breaks(book, rows)) == 0


def ties_of(book):
    """Of each row and each rule that ties it a tuple: the row's number, and those of all rows that serve it."""
    ties = []
    for rule in rules_of(book):
        for i, row in enumerate(book[2]):
            # A rule that ties the row finds nothing for it where there are no rows at all.
            if rule.lacks(row, []):
                ties.append((i, [j for j, other in enumerate(book[2]) if not rule.lacks(row, [other])]))
    return ties


def has_one_of(kept, some):
    """Whether one of some numbers is a key of a dict."""
    for number in some:
        if number in kept:
            return True
    return False


def untied_among(ties, kept):
    """The rows among the keys of a dict that want a tie there."""
    return [i for i, servers in ties if i in kept and not has_one_of(kept, servers)]


def tied_within(ties, rows):
    """The greatest set within a set of rows in which each row has its ties."""
    kept = dict([(i, True) for i in rows])
    untied = untied_among(ties, kept)
    # A row that goes may have served others, so it is looked again until none goes.
    while untied:
        for i in untied:
            # A row that wants two ties is told twice.
            kept.pop(i, None)
        untied = untied_among(ties, kept)
    return tuple(kept)


def held(book, rows):
    """The held rows of a set of rows."""
    rules = rules_of(book)
    allowed = [i for i in rows if not any([rule.bars(book[2][i]) for rule in rules])]
    return tied_within(ties_of(book), allowed)


def clashes(book):
    """The pairs (i, j) of rows that clash, i below j, sorted."""
    rules = rules_of(book)
    return [(i, j) for i, j in pairs_of(held(book, all_rows(book))) if breaks_of_two(book, rules, i, j)]
