"""A ledger: rows put and taken out, and what it answers of its book as it is [2, 26, 27]."""

import copy
import itertools
import unittest

from mendsure.books import book_of
from mendsure.breaks import breaks
from mendsure.errors import Double, NoPlace, NoQuestion, NoRow, NoRule, NoTable, NoText, TooGreat, TooWide, Twice
from mendsure.ledger import Ledger
from mendsure.mends import mended, mended_at
from mendsure.otherwise import surely
from mendsure.questions import question_of
from mendsure.sure import maybe, sure
from mendsure.wording import read_question, show_question

from plain_search import Chance, plain_breaks, plain_found, plain_mended

TABLES = [(2, 1), (1, 1)]
NEVER = ("never", 0, ((("cell", 0, 1), "less", ("is", 0)),))
APART = ("apart", 0, 0, ((("cell", 0, 1), "same", ("cell", 1, 1)),))
TIE = ("tie", 0, (1,), 1, (0,))
PAIRS = [(2, 1), (2, 1), (2, 1)]


def ledger_of(tables, rules, rows):
    ledger = Ledger(tables, rules)
    for t, cells in rows:
        ledger.put(t, cells)
    return ledger


def full_ledger(rules=None):
    """A ledger with sixty rows, twenty blocks of three."""
    return ledger_of(TABLES, rules, [(0, (key, number)) for key in range(20) for number in range(3)])


class LedgerCase(unittest.TestCase):
    def check_refused(self, refusal, place, ask):
        with self.assertRaises(refusal) as caught:
            ask()
        if place is not None:
            self.assertEqual(caught.exception.place, place)


class TestMade(LedgerCase):
    def test_without_rows(self):
        for rules in ([], (), [NEVER], (NEVER, APART, TIE)):
            for tables in (TABLES, tuple(TABLES)):
                self.assertEqual(Ledger(tables, rules).book(), (tuple(TABLES), tuple(rules), ()))

    def test_none_is_no_rules(self):
        expected = (tuple(TABLES), (), ())
        for ledger in (Ledger(TABLES), Ledger(TABLES, None), Ledger(TABLES, rules=None), Ledger(tables=TABLES)):
            self.assertEqual(ledger.book(), expected)

    def test_too_great(self):
        self.check_refused(TooGreat, None, lambda: Ledger([(1, 1)] * 5))
        self.check_refused(TooGreat, None, lambda: Ledger([(0, 0)] * 5))
        self.check_refused(TooGreat, None, lambda: Ledger(TABLES, [NEVER] * 7))
        self.check_refused(TooGreat, None, lambda: Ledger([], [("none",)] * 7))
        self.assertEqual(len(Ledger([(1, 1)] * 4, [("tie", 0, (0,), 1, (0,))] * 6).book()[1]), 6)

    def test_no_table(self):
        self.check_refused(NoTable, 0, lambda: Ledger([]))
        self.check_refused(NoTable, 0, lambda: Ledger([], [NEVER]))
        self.check_refused(NoTable, 1, lambda: Ledger([(1, 1), (2, 3), (0, 0)]))
        self.check_refused(NoTable, 2, lambda: Ledger([(1, 1), (2, 2), 7], [("none",)]))

    def test_no_rule(self):
        self.check_refused(NoRule, 0, lambda: Ledger(TABLES, [("none",)]))
        self.check_refused(NoRule, 1, lambda: Ledger(TABLES, [NEVER, ("tie", 0, (2,), 1, (0,)), ("none",)]))


class TestPut(LedgerCase):
    def test_numbers_and_rows(self):
        ledger = Ledger(TABLES)
        rows = [(0, ("ann", 3)), (1, (3,)), (0, ("ann", 4)), (0, (7, 7)), (1, ("ann",))]
        for number, (t, cells) in enumerate(rows):
            told = ledger.put(t, cells)
            self.assertEqual(told, number)
            self.assertIs(type(told), int)
            self.assertEqual(ledger.book(), (tuple(TABLES), (), tuple(rows[:number + 1])))

    def test_no_row(self):
        wrong = [(2, (1,)), (-1, (1,)), (True, (1,)), (False, (1, 1)), ("0", (1, 1)), (None, (1, 1)), ((0,), (1, 1)),
                 (0, (1,)), (0, (1, 2, 3)), (0, ()), (1, (1, 2)), (0, (1, True)), (0, (None, 1)), (0, (1, "Ann")),
                 (0, (1, "")), (0, (1, "ninechars")), (0, (10 ** 30, 1)), (0, (1, -(10 ** 30))), (0, (1, (2,))),
                 (0, None), (0, "ab"), (0, 7), (1, True), (1, "a")]
        for many in range(4):
            ledger = ledger_of(TABLES, None, [(1, (number,)) for number in range(many)])
            before = ledger.book()
            for t, cells in wrong:
                with self.subTest(many=many, t=t, cells=cells):
                    self.check_refused(NoRow, many, lambda: ledger.put(t, cells))
                    self.assertEqual(ledger.book(), before)

    def test_twice(self):
        rows = [(0, (1, 2)), (1, (1,)), (0, (2, 1))]
        ledger = ledger_of(TABLES, None, rows)
        before = ledger.book()
        for t, cells in rows:
            self.check_refused(Twice, 3, lambda: ledger.put(t, cells))
            self.assertEqual(ledger.book(), before)
        # The same cells in another table are another row, and so is the same key with other cells.
        other = ledger_of([(1, 1), (1, 1)], None, [(0, (1,))])
        self.assertEqual(other.put(1, (1,)), 1)
        self.assertEqual(ledger.put(0, (1, 1)), 3)
        self.check_refused(Twice, 4, lambda: ledger.put(0, (1, 1)))

    def test_rows_that_break_the_rules_are_put_too(self):
        ledger = Ledger(TABLES, [NEVER, TIE])
        self.assertEqual(ledger.put(0, (1, -1)), 0)
        self.assertEqual(ledger.put(0, (1, 2)), 1)
        self.assertEqual(ledger.breaks(), [("key", 0, 1), ("never", 0, 0), ("tie", 0, 1), ("tie", 1, 1)])

    def test_sixty_rows(self):
        ledger = Ledger([(1, 1)])
        for number in range(60):
            self.assertEqual(ledger.put(0, (number,)), number)
        before = ledger.book()
        # More, or what is no row, or a row that is there.
        for t, cells in ((0, (60,)), (7, ()), (None, None), (0, (0,)), (0, (59,))):
            self.check_refused(TooGreat, None, lambda: ledger.put(t, cells))
            self.assertEqual(ledger.book(), before)
        self.assertIsNone(ledger.take(3))
        self.check_refused(NoRow, 59, lambda: ledger.put(0, ()))
        self.check_refused(Twice, 59, lambda: ledger.put(0, (7,)))
        self.assertEqual(ledger.put(0, (3,)), 59)
        self.check_refused(TooGreat, None, lambda: ledger.put(0, (60,)))


class TestTake(LedgerCase):
    def test_those_behind_move_up(self):
        rows = [(1, (number,)) for number in range(6)]
        ledger = ledger_of(TABLES, None, rows)
        for number, left in ((2, [0, 1, 3, 4, 5]), (0, [1, 3, 4, 5]), (3, [1, 3, 4]), (1, [1, 4]), (0, [4]), (0, [])):
            self.assertIsNone(ledger.take(number))
            self.assertEqual(ledger.book()[2], tuple([rows[place] for place in left]))

    def test_no_place(self):
        for many in (0, 1, 3):
            ledger = ledger_of(TABLES, None, [(1, (number,)) for number in range(many)])
            before = ledger.book()
            for number in (-1, -2, -many - 1, many, many + 1, 60, 10 ** 100, -(10 ** 100)):
                if number in range(many):
                    continue
                with self.subTest(many=many, number=number):
                    self.check_refused(NoPlace, None, lambda: ledger.take(number))
                    self.assertEqual(ledger.book(), before)

    def test_a_row_that_was_taken_may_be_put_again(self):
        ledger = ledger_of(TABLES, None, [(1, (1,)), (1, (2,))])
        ledger.take(0)
        self.assertEqual(ledger.put(1, (1,)), 1)
        self.assertEqual(ledger.book()[2], ((1, (2,)), (1, (1,))))
        self.check_refused(Twice, 2, lambda: ledger.put(1, (2,)))


class TestAsked(LedgerCase):
    def test_breaks(self):
        rows = [(0, (1, -1)), (0, (2, 5)), (0, (3, 5)), (0, (3, 6)), (1, (5,))]
        ledger = ledger_of(TABLES, [NEVER, APART, TIE], rows)
        expected = [("apart", 1, 2, 1), ("key", 2, 3), ("never", 0, 0), ("tie", 0, 2), ("tie", 3, 2)]
        self.assertEqual(ledger.breaks(), expected)
        ledger.take(0)
        self.assertEqual(ledger.breaks(), [("apart", 0, 1, 1), ("key", 1, 2), ("tie", 2, 2)])
        ledger.put(1, (6,))
        self.assertEqual(ledger.breaks(), [("apart", 0, 1, 1), ("key", 1, 2)])
        self.assertEqual(Ledger(TABLES).breaks(), [])

    def test_many(self):
        ledger = ledger_of(TABLES, None, [(0, (1, 1)), (0, (1, 2)), (0, (1, 3)), (0, (2, 1)), (0, (2, 2))])
        self.assertEqual(ledger.many(), 6)
        ledger.take(0)
        self.assertEqual(ledger.many(), 4)
        self.assertEqual(Ledger(TABLES).many(), 1)
        self.assertEqual(Ledger(TABLES, [TIE]).many(), 1)
        tied = ledger_of(TABLES, [TIE], [(0, (1, 1)), (0, (1, 2)), (0, (1, 3)), (1, (2,)), (1, (3,))])
        self.assertEqual(tied.many(), 2)

    def test_mended_at(self):
        # In the order of all mended books, which isn't that of the blocks.
        ledger = ledger_of(TABLES, None, [(0, (1, 1)), (0, (2, 1)), (0, (2, 2)), (0, (1, 2))])
        self.assertEqual([ledger.mended_at(number) for number in range(4)], [(0, 1), (0, 2), (1, 3), (2, 3)])
        shifted = ledger_of(PAIRS, None, [(0, (1, 1)), (1, (1, 1)), (1, (1, 2)), (0, (1, 2)), (2, (5, 5))])
        self.assertEqual([shifted.mended_at(number) for number in range(4)], mended(shifted.book()))
        for number in (-1, -4, 4, 5, 10 ** 50):
            self.check_refused(NoPlace, None, lambda: ledger.mended_at(number))
        self.assertEqual(Ledger(TABLES).mended_at(0), ())
        self.check_refused(NoPlace, None, lambda: Ledger(TABLES).mended_at(1))
        self.check_refused(NoPlace, None, lambda: Ledger(TABLES).mended_at(-1))

    def test_sure_and_maybe(self):
        for rules in (None, [TIE]):
            rows = [(0, ("ann", 3)), (0, ("ann", 4)), (0, ("bob", 5)), (1, (3,)), (1, (4,)), (1, (5,))]
            ledger = ledger_of(TABLES, rules, rows)
            with self.subTest(rules=rules):
                self.assertEqual(ledger.sure("?x : 0 ?x ?y"), [("ann",), ("bob",)])
                self.assertEqual(ledger.sure("?y : 0 ?x ?y ; 1 ?y"), [(5,)])
                self.assertEqual(ledger.maybe("?y : 0 ?x ?y ; 1 ?y"), [(3,), (4,), (5,)])
                self.assertEqual(ledger.sure(": 0 ann 3"), [])
                self.assertEqual(ledger.maybe(": 0 ann 3"), [()])
                ledger.take(1)
                self.assertEqual(ledger.sure(": 0 ann 3"), [()])
                self.assertEqual(ledger.sure("?y : 0 ?x ?y ; 1 ?y"), [(3,), (5,)])
                self.assertEqual(ledger.maybe("?y : 0 ?x ?y ; 1 ?y"), [(3,), (5,)])
                ledger.put(0, ("bob", 4))
                self.assertEqual(ledger.sure("?y : 0 ?x ?y ; 1 ?y"), [(3,)])
                self.assertEqual(ledger.maybe("?y : 0 ?x ?y ; 1 ?y"), [(3,), (4,), (5,)])

    def test_without_rows(self):
        ledger = Ledger(TABLES)
        self.assertEqual(ledger.sure("?x : 0 ?x ?y"), [])
        self.assertEqual(ledger.maybe("?x : 0 ?x ?y"), [])

    def test_questions_that_have_no_formula(self):
        ledger = ledger_of(PAIRS, None, [(0, (1, 2)), (0, (1, 3)), (1, (2, 1)), (1, (3, 1)), (0, (4, 5)), (1, (5, 4))])
        self.assertEqual(ledger.sure(": 0 ?x ?y ; 1 ?y ?x"), [()])
        self.assertEqual(ledger.sure(": 0 ?x ?y ; 0 ?z ?y ; 1 ?y ?x"), [()])
        ledger.take(5)
        self.assertEqual(ledger.sure(": 0 ?x ?y ; 1 ?y ?x"), [()])
        ledger.take(3)
        self.assertEqual(ledger.sure(": 0 ?x ?y ; 1 ?y ?x"), [])
        self.assertEqual(ledger.maybe(": 0 ?x ?y ; 1 ?y ?x"), [()])


class TestWay(LedgerCase):
    def check_way(self, ledger, text, expected):
        with self.subTest(book=ledger.book(), text=text):
            self.assertEqual(ledger.way(text), expected)

    def test_formula(self):
        for rows in ([], [(0, (1, 2)), (0, (1, 3))]):
            ledger = ledger_of(PAIRS, None, rows)
            for text in (": 0 ?x ?y", "?x : 0 ?x ?y ; 1 ?y ?z", ": 0 ?x ?y ; 1 ?y ?z ; 2 ?z 7",
                         "?x : 0 ?x ?y ; 1 ?y ?x"):
                self.check_way(ledger, text, "formula")

    def test_through_where_there_are_rules(self):
        for rules in ([NEVER], [TIE], [APART, TIE]):
            for text in (": 0 ?x ?y", "?x : 0 ?x ?y ; 1 ?y", ": 0 ?x ?y ; 0 ?y ?x"):
                self.check_way(Ledger(TABLES, rules), text, "through")

    def test_through_where_a_table_stands_twice(self):
        for text in (": 0 ?x ?y ; 0 ?x ?y", "?x ?y ?z : 0 ?x ?y ; 1 ?y ?z ; 0 ?z ?x"):
            self.check_way(Ledger(PAIRS), text, "through")

    def test_through_where_there_is_a_ring(self):
        for text in (": 0 ?x ?y ; 1 ?y ?x", ": 2 ?x ?z ; 1 ?y ?z", ": 0 ?x ?y ; 1 ?y ?z ; 2 ?z ?x"):
            self.check_way(Ledger(PAIRS), text, "through")

    def test_of_far_too_many_mended_books(self):
        self.check_way(full_ledger(), ": 0 ?x ?y", "formula")
        self.check_way(full_ledger([NEVER]), ": 0 ?x ?y", "through")
        self.check_way(full_ledger(), ": 0 ?x ?y ; 0 ?y ?z", "through")


class TestTooWide(LedgerCase):
    def check_too_wide(self, number, ask):
        with self.assertRaises(TooWide) as caught:
            ask()
        self.assertEqual(caught.exception.number, number)

    def test_of_a_plain_book(self):
        ledger = full_ledger()
        self.assertEqual(ledger.many(), 3 ** 20)
        self.assertEqual(ledger.sure("?x : 0 ?x ?y"), [(key,) for key in range(20)])
        self.assertEqual(ledger.sure("?y : 0 ?x ?y"), [])
        self.assertEqual(len(ledger.breaks()), 60)
        for number in (0, -1, 5):
            self.check_too_wide(60, lambda: ledger.mended_at(number))
        self.check_too_wide(60, lambda: ledger.maybe("?x : 0 ?x ?y"))
        # No formula: a table that stands twice, and a ring.
        self.check_too_wide(60, lambda: ledger.sure("?x : 0 ?x ?y ; 0 ?x ?z"))
        pairs = ledger_of(PAIRS, None, ledger.book()[2])
        self.check_too_wide(60, lambda: pairs.sure(": 0 ?x ?y ; 1 ?y ?x"))
        self.assertEqual(pairs.sure("?y : 0 ?x ?y ; 1 ?y ?x"), [])

    def test_of_a_book_with_rules(self):
        ledger = full_ledger([NEVER])
        self.check_too_wide(60, ledger.many)
        self.check_too_wide(60, lambda: ledger.mended_at(0))
        self.check_too_wide(60, lambda: ledger.mended_at(-1))
        self.check_too_wide(60, lambda: ledger.sure("?x : 0 ?x ?y"))
        self.check_too_wide(60, lambda: ledger.maybe("?x : 0 ?x ?y"))
        self.assertEqual(len(ledger.breaks()), 60)

    def test_fifteen_rows_and_sixteen(self):
        for rules in (None, [NEVER]):
            ledger = ledger_of(TABLES, rules, [(0, (key, number)) for key in range(5) for number in range(3)])
            with self.subTest(rules=rules):
                self.assertEqual(ledger.many(), 3 ** 5)
                self.assertEqual(ledger.mended_at(0), (0, 3, 6, 9, 12))
                self.assertEqual(ledger.maybe("?y : 0 ?x ?y"), [(0,), (1,), (2,)])
                ledger.put(0, (4, 3))
                self.check_too_wide(16, lambda: ledger.mended_at(0))
                self.check_too_wide(16, lambda: ledger.maybe("?y : 0 ?x ?y"))
                ledger.take(15)
                self.assertEqual(ledger.mended_at(3 ** 5 - 1), (2, 5, 8, 11, 14))


class TestTexts(LedgerCase):
    def check_text(self, refusal, text, place=None):
        # Of wide books too: a text is refused ahead of how wide they are.
        for ledger in (Ledger(TABLES), Ledger(TABLES, [TIE]), full_ledger(), full_ledger([NEVER])):
            before = ledger.book()
            for ask in (ledger.sure, ledger.maybe, ledger.way):
                with self.subTest(text=text, ask=ask):
                    self.check_refused(refusal, place, lambda: ask(text))
            self.assertEqual(ledger.book(), before)

    def test_no_text(self):
        for text in ("", ":", "0 ?x ?y", "?x : 0 ?x ?y ;", "?x  : 0 ?x ?y", "x : 0 ?x ?y", "?x : ?y ?x", "?x : 0 ?X ?y",
                     "?x : 0 ?x 07", ": 0 ?x ?y : 1 ?x", " : 0 ?x ?y", None, 7, True, (":", 0), ("?x : 0 ?x ?y",)):
            self.check_text(NoText, text)

    def test_no_question(self):
        for text, place in ((": 2 ?x", 0), (": -1 ?x", 0), (": 0 ?x", 0), (": 0 ?x ?y ; 1 ?x ?y", 1),
                            ("?z : 0 ?x ?y", 1), ("?x ?x : 0 ?x ?y", 1), (" ; ".join([": 1 ?x"] + ["1 ?x"] * 4), 5)):
            self.check_text(NoQuestion, text, place)


class TestBesideAnother(LedgerCase):
    def test_two_ledgers(self):
        one = Ledger(TABLES)
        other = Ledger(TABLES)
        one.put(0, (1, 2))
        self.assertEqual(other.book()[2], ())
        self.assertEqual(other.put(1, (5,)), 0)
        self.assertEqual(one.put(0, (1, 3)), 1)
        self.assertEqual(other.put(0, (1, 2)), 1)
        other.take(0)
        self.assertEqual(one.book()[2], ((0, (1, 2)), (0, (1, 3))))
        self.assertEqual(other.book()[2], ((0, (1, 2)),))
        self.assertEqual((one.many(), other.many()), (2, 1))

    def test_lists_that_are_changed_behind_the_call(self):
        tables = list(TABLES)
        rules = [NEVER]
        ledger = Ledger(tables, rules)
        before = (tuple(TABLES), (NEVER,), ())
        tables[0] = (1, 0)
        tables.pop()
        rules.append(TIE)
        self.assertEqual(ledger.book(), before)
        rules.clear()
        self.assertEqual(ledger.put(0, (1, -2)), 0)
        self.assertEqual(ledger.put(1, (1,)), 1)
        self.assertEqual(ledger.breaks(), [("never", 0, 0)])
        self.assertEqual(ledger.way(": 0 ?x ?y"), "through")

    def test_what_is_handed_in_stays(self):
        tables = list(TABLES)
        rules = [NEVER, TIE]
        before = copy.deepcopy((tables, rules))
        ledger = Ledger(tables, rules)
        ledger.put(0, (1, 2))
        ledger.take(0)
        self.assertEqual((tables, rules), before)

    def test_what_was_told_stays(self):
        ledger = ledger_of(TABLES, None, [(0, (1, 2)), (0, (1, 3)), (0, (2, 2))])
        book = ledger.book()
        asked = [ledger.breaks, lambda: ledger.sure("?x : 0 ?x ?y"), lambda: ledger.maybe("?y : 0 ?x ?y")]
        expected = [[("key", 0, 1)], [(1,), (2,)], [(2,), (3,)]]
        for ask, right in zip(asked, expected):
            told = ask()
            other = ask()
            told.append(7)
            told.pop(0)
            self.assertEqual(other, right)
            self.assertEqual(ask(), right)
        others = [ask() for ask in asked]
        ledger.put(0, (3, 3))
        ledger.take(0)
        self.assertEqual(book, (tuple(TABLES), (), ((0, (1, 2)), (0, (1, 3)), (0, (2, 2)))))
        self.assertEqual(others, expected)

    def test_the_book_is_one_that_others_take(self):
        ledger = ledger_of(TABLES, [TIE], [(0, (1, 2)), (0, (1, 3)), (1, (2,))])
        self.assertEqual(ledger.book(), book_of(TABLES, [TIE], [(0, (1, 2)), (0, (1, 3)), (1, (2,))]))
        self.assertEqual(mended(ledger.book()), [(0, 2)])


class TestBySearch(LedgerCase):
    def check_asked(self, ledger, book, text):
        """All that a ledger answers, against the book of its rows that was made at once."""
        question = read_question(book[0], text)
        self.assertEqual(ledger.book(), book)
        everything = tuple(range(len(book[2])))
        self.assertEqual(ledger.breaks(), breaks(book, everything))
        self.assertEqual(ledger.breaks(), plain_breaks(book, everything))
        told = plain_mended(book)
        self.assertEqual(ledger.many(), len(told))
        self.assertEqual([ledger.mended_at(number) for number in range(len(told))], told)
        self.assertEqual(ledger.mended_at(0), mended_at(book, 0))
        self.assertEqual(ledger.sure(text), sure(book, question))
        self.assertEqual(ledger.maybe(text), maybe(book, question))
        found = plain_found(book, question)
        self.assertEqual(ledger.sure(text), [one for one in found[0] if all(one in here for here in found)])
        self.assertEqual(set(ledger.maybe(text)), set(itertools.chain(*found)))
        return ledger.way(text)

    def test_rows_that_come_and_go(self):
        ways = {}
        for seed, words in ((71, ()), (72, ("never", "apart", "tie")), (73, ("tie",)), (74, ())):
            chance = Chance(seed)
            for case in range(25):
                book = chance.book(7, words)
                ledger = Ledger(book[0], book[1])
                rows = []
                for row in book[2]:
                    if rows and chance.chance.random() < 0.3:
                        number = chance.chance.randrange(len(rows))
                        rows.pop(number)
                        ledger.take(number)
                    self.assertEqual(ledger.put(*row), len(rows))
                    rows.append(row)
                    text = show_question(chance.question(book[0], 3))
                    with self.subTest(book=book, rows=rows, text=text):
                        way = self.check_asked(ledger, book_of(book[0], book[1], rows), text)
                        ways[way] = ways.get(way, 0) + 1
        self.assertGreater(min(ways["formula"], ways["through"]), 30)

    def test_the_way_is_the_one_that_serves(self):
        chance = Chance(75)
        for case in range(100):
            tables, question = chance.single_question(1 + case % 4, 2)
            book = chance.planted_book(tables, question, 7)
            ledger = ledger_of(tables, None, book[2])
            text = show_question(question)
            with self.subTest(book=book, text=text):
                if self.check_asked(ledger, book, text) == "formula":
                    self.assertEqual(surely(book, question), ledger.sure(text))
                else:
                    with self.assertRaises(ValueError):
                        surely(book, question)

    def test_a_table_that_stands_twice_is_asked_through(self):
        question = question_of(TABLES, [], [(1, (("var", "x"),)), (1, (("var", "y"),))])
        ledger = ledger_of(TABLES, None, [(1, (1,)), (0, (1, 1)), (0, (1, 2))])
        with self.assertRaises(Double):
            surely(ledger.book(), question)
        self.assertEqual(self.check_asked(ledger, ledger.book(), show_question(question)), "through")


if __name__ == "__main__":
    unittest.main()
