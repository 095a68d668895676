import unittest

from helpers import (
    equal_book, followers, kept_family, random_book, random_family, random_rows, raised, same, sources, told_count,
)
from joinpast.blocks import blocked_book
from joinpast.books import Book
from joinpast.errors import Broken, RowsDiffer
from joinpast.families import Family
from joinpast.keeping import first_break, keeps
from joinpast.thinning import refined, thinned, thinned_book

SAME = [(0, -1), (1, 1)]
DOUBLING = Book(["x"], [[("x", 1, 1), ("x", 0, -2)]])
PUMP = Book(["level", "pump"], [[("level", 1, 1), ("level", 0, -1), ("pump", 0, -1)]])


class ThinningTest(unittest.TestCase):
    def assert_thinned(self, family, count):
        found = thinned(family, count)
        self.assertEqual(found.rows, family.rows)
        for row in family.rows:
            self.assertEqual([found(row, at) for at in range(-9, 10)], [family(row, count * at) for at in range(-9, 10)])

    def assert_refined(self, book, family, count):
        found = refined(book, family, count)
        self.assertTrue(keeps(book, found))
        self.assertEqual(thinned(found, count), family)
        return found

    def test_interface_example(self):
        self.assertEqual(thinned_book(DOUBLING, 3).rules, ((("x", 0, 8), ("x", 1, -1)),))

    def test_families(self):
        for source in sources(120):
            self.assert_thinned(random_family(source, random_rows(source, 3)), source.randint(1, 6))
        self.assertEqual(thinned(Family.pulse(["abcdefghij"], "abcdefghij", place=12), 3).extent(), (4, 4))
        self.assertIsNone(thinned(Family.pulse(["a"], "a", place=13), 3).extent())

    def test_known_books(self):
        self.assertEqual(thinned_book(PUMP, 2), Book.free(["level", "pump"]))
        self.assertEqual(thinned_book(DOUBLING, 1), DOUBLING)
        self.assertEqual(thinned_book(Book.free(["a", "b"]), 4), Book.free(["a", "b"]))
        self.assertEqual(thinned_book(Book.zero(["a", "b"]), 4), Book.zero(["a", "b"]))
        turning = Book(["x"], [[("x", 0, 1), ("x", 1, 1)]])
        self.assertEqual(thinned_book(turning, 2).rules, ((("x", 0, 1), ("x", 1, -1)),))
        self.assertEqual(thinned_book(turning, 3), turning)
        grown = Book(["x"], [[("x", 0, 1), ("x", 1, 1), ("x", 2, -1)]])
        self.assertEqual(thinned_book(grown, 2).rules, ((("x", 0, 1), ("x", 1, -3), ("x", 2, 1)),))
        found = thinned_book(Book(["x"], [[], DOUBLING.rules[0]]), 2)
        self.assertEqual(found.given, found.rules)

    def test_known_refinements(self):
        eights = Family(["x"], 0, [[1]], before=[(0, -8), (1, 1)], after=[(0, -8), (1, 1)])
        self.assertEqual(self.assert_refined(DOUBLING, eights, 3)("x", 7), (128, 1))
        for count in range(1, 7):
            self.assert_refined(PUMP, Family.zero(["level", "pump"]) if count == 1 else Family(
                ["level", "pump"], 2, [[1, 2, 3], [4, 5, (6, 7)]], after=SAME), count)
            self.assert_refined(Book.free(["a"]), Family.pulse(["a"], "a", place=7), count)
            self.assert_refined(Book.zero(["a", "b"]), Family.zero(["a", "b"]), count)

    def test_names_of_all_kinds(self):
        rows = ["e0x0", "e0x1", "e1x0", "ninechars", "tencharact"]
        book = Book(rows, [[(row, at, 1) for at, row in enumerate(rows)]])
        self.assertEqual(thinned_book(book, 2), Book.free(rows))
        self.assert_refined(book, Family(rows, -1, [[1, 2], [3, 4], [5, 6], [7, 8], [9, 1]]), 2)

    def test_more_rows_than_can_be_passed(self):
        rows = list("abcdef")
        book = Book(rows, [[(row, 0, 1), (after, 1, 2)] for row, after in zip(rows, rows[1:])])
        wide = blocked_book(book, 2)
        self.assertEqual(len(wide.rows), 12)
        source = next(iter(sources(1)))
        self.assert_refined(wide, kept_family(source, thinned_book(wide, 2)), 2)

    def test_errors_in_their_order(self):
        error = raised(refined, DOUBLING, Family.zero(["y"]), 2)
        self.assertIsInstance(error, RowsDiffer)
        self.assertEqual((error.one, error.two), (("x",), ("y",)))
        family = Family.pulse(["x"], "x", place=-4)
        for count in (1, 2):
            error = raised(refined, DOUBLING, family, count)
            self.assertIsInstance(error, Broken)
            self.assertEqual((error.place, error.index), first_break(thinned_book(DOUBLING, count), family))
            self.assertEqual((error.place, error.index), (-4, 0))

    def test_books_of_chance(self):
        for source in sources(80):
            rows = random_rows(source, 3)
            book = random_book(source, rows)
            count = source.randint(1, 4)
            found = thinned_book(book, count)
            self.assertEqual(found, thinned_book(equal_book(source, book), count))
            self.assertTrue(keeps(found, thinned(kept_family(source, book), count)))
            for length in (1, 2, 3):
                spots = [(row, count * at) for row in rows for at in range(length)]
                self.assertEqual(followers(found.rules, length), told_count(book.given, spots, 30))
            family = kept_family(source, found)
            fine = self.assert_refined(book, family, count)
            self.assertTrue(same(fine, refined(equal_book(source, book), family, count)))


if __name__ == "__main__":
    unittest.main()
