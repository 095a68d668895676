import unittest

from helpers import raised, random_family, random_rows, random_rules, sources
from joinpast.books import Book
from joinpast.errors import BadName, RowTwice, UnknownRow
from joinpast.keeping import keeps
from joinpast.turning import renamed_book, turned_book


class TurningTest(unittest.TestCase):
    def test_turned_book(self):
        book = Book(["a", "b"], [[("a", 1, 1), ("b", 0, -2)], [("b", 3, 1), ("b", 0, 5)], []])
        found = turned_book(book)
        self.assertEqual(found, Book(["a", "b"], [[("a", -1, 1), ("b", 0, -2)], [("b", -3, 1), ("b", 0, 5)]]))
        self.assertEqual(found.given, found.rules)
        self.assertEqual(turned_book(Book.free(["x"])), Book.free(["x"]))

    def test_turned_book_and_turned_families(self):
        for source in sources(120):
            rows = random_rows(source, 2)
            book = Book(rows, random_rules(source, rows, most=2))
            family = random_family(source, rows)
            self.assertIs(keeps(turned_book(book), family), keeps(book, family.turned()))
            self.assertEqual(turned_book(turned_book(book)), book)

    def test_renamed_book(self):
        book = Book(["a", "b"], [[("a", 1, 1), ("b", 0, -2)], [("b", 0, 1), ("b", 2, 1)]])
        found = renamed_book(book, "a", "z")
        self.assertEqual(found, Book(["z", "b"], [[("z", 1, 1), ("b", 0, -2)], [("b", 0, 1), ("b", 2, 1)]]))
        self.assertEqual(found.rows, ("b", "z"))
        self.assertEqual(found.given, found.rules)
        self.assertEqual(renamed_book(book, "b", "b"), book)
        self.assertEqual(renamed_book(book, "b", "b").given, book.rules)

    def test_renamed_book_and_renamed_families(self):
        for source in sources(80):
            rows = random_rows(source, 2)
            book = Book(rows, random_rules(source, rows, most=2))
            family = random_family(source, rows)
            new = source.choice(["z", "a0", rows[0]])
            self.assertIs(keeps(renamed_book(book, rows[0], new), family.renamed(rows[0], new)), keeps(book, family))

    def test_errors_in_their_order(self):
        book = Book.free(["a", "b"])
        error = raised(renamed_book, book, "c", "B")
        self.assertIsInstance(error, UnknownRow)
        self.assertEqual(error.name, "c")
        error = raised(renamed_book, book, "a", "B")
        self.assertIsInstance(error, BadName)
        self.assertEqual(error.name, "B")
        error = raised(renamed_book, book, "a", "b")
        self.assertIsInstance(error, RowTwice)
        self.assertEqual(error.name, "b")


if __name__ == "__main__":
    unittest.main()
