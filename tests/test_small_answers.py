"""Small books against a plain search over all their mended books: answers, blocks and sums [3, 16, 17, 18, 19, 20]."""

import unittest

from mendsure.blocks import blocks, chosen, is_plain, many_by_blocks
from mendsure.books import book_of
from mendsure.questions import answers
from mendsure.sums import sum_in, sums
from mendsure.sure import failing, maybe, odds, standing, sure
from mendsure.values import in_order

from plain_search import Chance, plain_found, plain_mended


def first(told):
    return told[0] if told else None


def plain_sum(book, rows, t, c):
    cells = [book[2][i][1][c] for i in rows if book[2][i][0] == t]
    return sum([cell for cell in cells if isinstance(cell, int)])


class TestSureAndMaybe(unittest.TestCase):
    def check_tuple(self, book, question, answer, told, found):
        stands = [rows for rows, here in zip(told, found) if answer in here]
        fails = [rows for rows, here in zip(told, found) if answer not in here]
        self.assertEqual(failing(book, question, answer), first(fails))
        self.assertEqual(standing(book, question, answer), first(stands))
        self.assertEqual(odds(book, question, answer), (len(stands), len(told)))

    def check(self, book, question):
        told = plain_mended(book)
        found = plain_found(book, question)
        broken = answers(book[2], question)
        with self.subTest(book=book, question=question):
            expected = in_order([answer for here in found for answer in here])
            self.assertEqual(maybe(book, question), expected)
            certain = [answer for answer in expected if all(answer in here for here in found)]
            self.assertEqual(sure(book, question), certain)
            self.assertTrue(all(answer in broken for answer in certain))
            for answer in broken + [(9,) * len(question[0])]:
                self.check_tuple(book, question, answer, told, found)
        return certain, expected

    def test_plain_books_and_books_with_rules(self):
        seen = {}
        for seed, words in ((41, ()), (42, ("never", "apart", "tie")), (43, ("tie",)), (44, ("apart",))):
            chance = Chance(seed)
            for case in range(60):
                book = chance.book(7, words)
                for number in range(2):
                    certain, expected = self.check(book, chance.question(book[0], 3))
                    seen[(len(certain) > 0, len(certain) < len(expected))] = True
        # Among them are questions with sure answers and without, with maybe ones that aren't sure and without.
        self.assertEqual(len(seen), 4)

    def test_four_atoms(self):
        chance = Chance(45)
        for case in range(40):
            book = chance.book(6, ("apart", "tie"))
            self.check(book, chance.question(book[0], 4))


class TestBlocks(unittest.TestCase):
    def test_their_mended_books(self):
        chance = Chance(46)
        for case in range(200):
            book = chance.book(9, ())
            with self.subTest(book=book):
                expected = plain_mended(book)
                self.assertIs(is_plain(book), True)
                self.assertEqual(many_by_blocks(book), len(expected))
                self.assertEqual(sorted([chosen(book, number) for number in range(len(expected))]), expected)
                told = blocks(book)
                self.assertEqual(sorted(sum(told, [])), list(range(len(book[2]))))
                self.assertEqual(told, sorted([sorted(block) for block in told]))


class TestSums(unittest.TestCase):
    def check(self, book, t, c, told):
        with self.subTest(book=book, t=t, c=c):
            expected = [plain_sum(book, rows, t, c) for rows in told]
            self.assertEqual([sum_in(book, rows, t, c) for rows in told], expected)
            least, one, greatest, other = sums(book, t, c)
            self.assertEqual((least, greatest), (min(expected), max(expected)))
            self.assertIn(one, told)
            self.assertIn(other, told)
            self.assertEqual((plain_sum(book, one, t, c), plain_sum(book, other, t, c)), (least, greatest))

    def test_of_all_columns(self):
        for seed, words in ((47, ()), (48, ("never", "apart", "tie")), (49, ("apart", "tie"))):
            chance = Chance(seed)
            for case in range(60):
                book = shifted(chance.book(8, words))
                told = plain_mended(book)
                for t, table in enumerate(book[0]):
                    for c in range(table[0]):
                        self.check(book, t, c, told)


def shifted(book):
    """A book with 0 and 1 as the numbers -3 and 11 among its cells, so that sums go below 0 and above."""
    others = {0: -3, 1: 11}
    rows = [(t, tuple([others.get(cell, cell) for cell in cells])) for t, cells in book[2]]
    return book_of(book[0], book[1], rows)


if __name__ == "__main__":
    unittest.main()
