import unittest

from helpers import equal_book, random_book, random_rows, raised, same, sources
from joinpast.books import Book
from joinpast.comparing import within
from joinpast.enforcing import Enforcement, bounds, enforce
from joinpast.errors import BadName, NoRows, RowTwice, UnknownRow
from joinpast.families import Family
from joinpast.hiding import shown_book
from joinpast.keeping import keeps

PUMP = Book(["level", "pump"], [[("level", 1, 1), ("level", 0, -1), ("pump", 0, -1)]])
STILL = Book(["level"], [[("level", 1, 1), ("level", 0, -1)]])


class BoundsTest(unittest.TestCase):
    def test_known_bounds(self):
        self.assertEqual(bounds(PUMP, ["level"], ["pump"]), (STILL, Book.free(["level"])))
        self.assertEqual(bounds(PUMP, ("pump",), ("level",)), (Book.zero(["pump"]), Book.free(["pump"])))
        self.assertEqual(bounds(PUMP, ["pump", "level"], []), (PUMP, PUMP))
        self.assertEqual(bounds(PUMP, ["pump", "level"], ["pump", "level"]), (Book.zero(PUMP.rows), PUMP))
        for book in bounds(PUMP, ["level"], ["pump"]):
            self.assertEqual(book.given, book.rules)

    def test_errors_in_their_order(self):
        self.assertIsInstance(raised(bounds, PUMP, [], ["Q"]), NoRows)
        for rows, on, kind, name in (
            (["Q", "q", "q"], ["P"], BadName, "Q"), (["q", "q"], ["P"], RowTwice, "q"), (["q", "p"], ["P"], UnknownRow, "p"),
            (["level"], ["q", "q", "Q"], BadName, "Q"), (["level"], ["q", "pump", "pump"], RowTwice, "pump"),
            (["level"], ["q", "pump", "p"], UnknownRow, "p"),
        ):
            error = raised(bounds, PUMP, rows, on)
            self.assertIsInstance(error, kind)
            self.assertEqual(error.name, name)


class EnforceTest(unittest.TestCase):
    def assert_enforced(self, book, wish, on):
        found = enforce(book, wish, on)
        self.assertIsInstance(found, Enforcement)
        least, greatest = bounds(book, wish.rows, on)
        possible = within(least, wish) and within(wish, greatest)
        self.assertEqual(found.added is not None, possible)
        if possible:
            self.assertEqual(found.added.rows, tuple(sorted(on)))
            self.assertEqual(found.added.given, found.added.rules)
            self.assertEqual(shown_book(book & found.added, wish.rows), wish)
            self.assertEqual((found.let_anyway, found.never_let), (None, None))
            return "added"
        self.assertEqual(found.let_anyway is None, within(least, wish))
        self.assertEqual(found.never_let is None, within(wish, greatest))
        if found.let_anyway is not None:
            self.assertTrue(keeps(book, found.let_anyway))
            self.assertEqual(found.let_anyway.only(on), Family.zero(on))
            self.assertFalse(keeps(wish, found.let_anyway.only(wish.rows)))
        if found.never_let is not None:
            self.assertTrue(keeps(wish, found.never_let))
            self.assertFalse(keeps(shown_book(book, wish.rows), found.never_let))
        return (found.let_anyway is None, found.never_let is None)

    def test_interface_example(self):
        self.assertEqual(enforce(PUMP, STILL, ["pump"]).added.rules, ((("pump", 0, 1),),))
        self.assertIsNone(enforce(PUMP, Book.zero(["level"]), ["pump"]).never_let)

    def test_wishes_that_cannot_be_enforced(self):
        self.assertEqual(self.assert_enforced(PUMP, Book.zero(["level"]), ["pump"]), (False, True))
        self.assertEqual(self.assert_enforced(STILL, Book.free(["level"]), ["level"]), (True, False))
        book = Book(["a", "b", "c"], [[("a", 0, 1), ("a", 1, -1)]])
        wish = Book(["a", "b"], [[("b", 0, 1)]])
        self.assertEqual(self.assert_enforced(book, wish, ["c"]), (False, False))
        self.assertEqual(self.assert_enforced(book, wish, ["b"]), (True, False))
        self.assertEqual(self.assert_enforced(book, book & wish, ["b"]), "added")

    def test_wishes_over_all_rows_and_the_book_itself(self):
        for on in (["level"], ["pump"], ["pump", "level"]):
            self.assertEqual(self.assert_enforced(PUMP, PUMP, on), "added")
        self.assertEqual(self.assert_enforced(PUMP, Book.zero(PUMP.rows), ["level"]), "added")
        self.assertEqual(self.assert_enforced(PUMP, Book.zero(PUMP.rows), ["pump"]), (False, True))
        self.assertEqual(self.assert_enforced(PUMP, Book.zero(["level"]), ["level"]), "added")

    def test_errors_in_their_order(self):
        wish = Book.free(["x", "level", "y"])
        error = raised(enforce, PUMP, wish, [])
        self.assertIsInstance(error, UnknownRow)
        self.assertEqual(error.name, "x")
        self.assertIsInstance(raised(enforce, PUMP, STILL, []), NoRows)
        for on, kind, name in ((["q", "q", "Q"], BadName, "Q"), (["q", "pump", "pump"], RowTwice, "pump"),
                               (["q", "pump", "p"], UnknownRow, "p")):
            error = raised(enforce, PUMP, STILL, on)
            self.assertIsInstance(error, kind)
            self.assertEqual(error.name, name)

    def test_books_of_chance(self):
        kinds = {}
        for source in sources(150):
            rows = random_rows(source, 4)
            book = random_book(source, rows, shift=1)
            named = source.sample(rows, source.randint(1, len(rows)))
            on = source.sample(rows, source.randint(1, len(rows)))
            wish = shown_book(book & random_book(source, on, shift=1), named)
            if source.randint(0, 2) == 0:
                wish = random_book(source, named, shift=1)
            kind = self.assert_enforced(book, wish, on)
            kinds[kind] = kinds.get(kind, 0) + 1
            one = enforce(book, wish, on)
            two = enforce(equal_book(source, book), equal_book(source, wish), on[::-1])
            self.assertEqual(one.added, two.added)
            self.assertTrue(same((one.let_anyway, one.never_let), (two.let_anyway, two.never_let)))
        self.assertEqual(len(kinds), 4, kinds)


if __name__ == "__main__":
    unittest.main()
