import unittest

from helpers import random_rows, random_rules, raised, sources
from joinpast.blocks import blocked_book
from joinpast.booknotes import format_book, parse_book
from joinpast.books import Book
from joinpast.errors import BadNotation


class BooknotesTest(unittest.TestCase):
    def test_interface_example(self):
        self.assertEqual(parse_book("rows a b\nrule 1 a 0, -1 b 1\n").given, ((("a", 0, 1), ("b", 1, -1)),))

    def test_written_books(self):
        rule = [("b", 3, -2), ("a", 5, 4)]
        self.assertEqual(format_book(Book(["b", "a"], [rule, [], rule])), "rows a b\nrule 4 a 5, -2 b 3\nrule 0\nrule 4 a 5, -2 b 3\n")
        self.assertEqual(format_book(Book.free(["x9"])), "rows x9\n")

    def test_given_rules_are_kept(self):
        text = "rows a b\nrule 4 a 5, -2 b 3\nrule 0\nrule 4 a 5, -2 b 3\n"
        book = parse_book(text)
        self.assertEqual(book.rows, ("a", "b"))
        self.assertEqual(book.given, ((("a", 5, 4), ("b", 3, -2)), (), (("a", 5, 4), ("b", 3, -2))))
        self.assertEqual(book.rules, ((("a", 2, 2), ("b", 0, -1)),))
        self.assertEqual(format_book(book), text)

    def test_the_first_wrong_line(self):
        pairs = [
            ("", 0), ("\n", 0), ("rows\n", 0), ("rows \n", 0), ("rows a", 0), ("row a\n", 0), (" rows a\n", 0), ("rows a \n", 0),
            ("rows  a\n", 0), ("rows b a\n", 0), ("rows a a\n", 0), ("rows A\n", 0), ("rows 1\n", 0), ("rows a,b\n", 0),
            ("rows abcdefghijk\n", 0), ("rule 0\n", 0), ("rows b a\nrule x\n", 0), ("\nrows a\n", 0), ("Rows a\n", 0),
            ("rows a\n\n", 1), ("rows a\nrule 0\n\n", 2), ("rows a\nrule\n", 1), ("rows a\nrule \n", 1), ("rows a\nrule 1 b 0\n", 1),
            ("rows a\nrule 1 a 0", 1), ("rows a\nrule 0\nrule 1 a 0", 2), ("rows a\nrule 1 a 0 \n", 1), ("rows a\nrule  1 a 0\n", 1),
            ("rows a\nrule 0 a 0\n", 1), ("rows a\nrule 1 a 0, 1 a 0\n", 1), ("rows a b\nrule 1 b 0, 1 a 0\n", 1),
            ("rows a\nrule 0\nrows a\n", 2), ("rows a\nrule 0\nrule 01 a 0\nrule x\n", 2), ("rows a\nrule 1 a 0\n ", 2),
            ("rows a\nrule x\nrule 0", 1), ("rows a\nrule 1 a 0, 1 b 0\n", 1), ("rows a\nrul 0\n", 1), ("rows a\nx", 1),
        ]
        for text, line in pairs:
            error = raised(parse_book, text)
            self.assertIsInstance(error, BadNotation, text)
            self.assertEqual(error.line, line, text)

    def test_books_with_more_rows_than_are_passed(self):
        wide = blocked_book(Book(list("abcdef"), [[("a", 0, 1), ("f", 1, -1)]]), 3)
        found = parse_book(format_book(wide))
        self.assertEqual((found.rows, found.given), (wide.rows, wide.given))

    def test_what_is_written_is_read(self):
        for source in sources(60):
            rows = random_rows(source, 5)
            book = Book(rows, random_rules(source, rows, most=5))
            found = parse_book(format_book(book))
            self.assertEqual((found.rows, found.given, found.rules), (book.rows, book.given, book.rules))


if __name__ == "__main__":
    unittest.main()
