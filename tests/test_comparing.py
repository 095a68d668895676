import unittest

from helpers import equal_book, random_book, random_rows, raised, sources
from joinpast.books import Book
from joinpast.comparing import parting, within
from joinpast.errors import RowsDiffer
from joinpast.keeping import keeps
from joinpast.sums import sum_times

STEADY = Book(["x"], [[("x", 0, 1), ("x", 1, -1)]])
EVEN = Book(["x"], [[("x", 0, 1), ("x", 2, -1)]])


class ComparingTest(unittest.TestCase):
    def assert_parted(self, one, two):
        family = parting(one, two)
        if one == two:
            self.assertIsNone(family)
            return
        self.assertEqual(family.rows, one.rows)
        self.assertNotEqual(keeps(one, family), keeps(two, family))

    def test_within(self):
        self.assertIs(within(STEADY, EVEN), True)
        self.assertIs(within(EVEN, STEADY), False)
        self.assertIs(within(STEADY, STEADY), True)
        self.assertIs(within(Book.zero(["x"]), STEADY), True)
        self.assertIs(within(STEADY, Book.zero(["x"])), False)
        self.assertIs(within(STEADY, Book.free(["x"])), True)
        self.assertIs(within(Book.free(["x"]), STEADY), False)
        self.assertIs(within(Book.free(["x"]), Book(["x"], [[], []])), True)

    def test_parting_of_known_books(self):
        books = [STEADY, EVEN, Book.zero(["x"]), Book.free(["x"]), Book(["x"], [[("x", 4, 3), ("x", 3, -3)]])]
        for one in books:
            for two in books:
                self.assert_parted(one, two)
        self.assertIsNone(parting(books[0], books[4]))

    def test_neither_is_within_the_other(self):
        odd = Book(["x"], [[("x", 0, 1), ("x", 1, 1)]])
        self.assertFalse(within(odd, STEADY) or within(STEADY, odd))
        self.assert_parted(odd, STEADY)

    def test_rows_differ(self):
        for call in (within, parting):
            error = raised(call, STEADY, Book.free(["x", "y"]))
            self.assertIsInstance(error, RowsDiffer)
            self.assertEqual((error.one, error.two), (("x",), ("x", "y")))

    def test_books_of_chance(self):
        for source in sources(120):
            rows = random_rows(source, 3)
            one, two = random_book(source, rows), random_book(source, rows)
            if source.randint(0, 1):
                two = Book(rows, [sum_times([(0, 1), (1, 2)], rule) for rule in one.rules])
            self.assertIs(within(one, two), all(rule in one for rule in two.given))
            self.assertIs(within(one & two, one), True)
            self.assertIs(within(one, one + two), True)
            self.assert_parted(one, two)
            self.assertEqual(parting(one, two), parting(equal_book(source, one), equal_book(source, two)))
            self.assertIs(within(equal_book(source, one), equal_book(source, two)), within(one, two))


if __name__ == "__main__":
    unittest.main()
