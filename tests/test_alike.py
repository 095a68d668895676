import unittest
from math import gcd

from helpers import (
    all_tuples, equal_book, kept_family, naive_value, pair, random_book, random_family, random_rows, random_sum,
    raised, sources,
)
from joinpast.alike import Likeness, compare, translated
from joinpast.blocks import blocked_book
from joinpast.books import Book
from joinpast.errors import BadName, BadParts, NoRows, RowTwice, UnknownRow
from joinpast.families import Family
from joinpast.hiding import shown_book
from joinpast.keeping import keeps
from joinpast.plainpolys import ONE
from joinpast.polynomials import normal_polynomial
from joinpast.sums import sum_times
from joinpast.tables import count_obeying, table

PUMP = Book(["level", "pump"], [[("level", 1, 1), ("level", 0, -1), ("pump", 0, -1)]])
STILL = Book(["x"], [[("x", 1, 1), ("x", 0, -1)]])


class TranslatedTest(unittest.TestCase):
    def test_known_families(self):
        family = Family(["a", "b"], 0, [[1, 2], [3, 4]])
        formulas = [(2, [("a", 0, 4)]), (6, [("b", 0, 3), ("a", 1, 3)]), (1, ())]
        found = translated(family, ["z", "y", "x"], formulas)
        self.assertEqual(found, Family(["x", "y", "z"], 0, [[2, 4], [(5, 2), 2], [0, 0]]) + Family(
            ["x", "y", "z"], -1, [[0], [(1, 2)], [0]]))

    def test_one_row_and_lists(self):
        family = Family(["a"], 0, [[6]])
        self.assertEqual(translated(family, ["q"], [[4, [["a", -1, 2]]]]), Family(["q"], 1, [[3]]))
        self.assertEqual(translated(family, ("a",), ((1, (("a", 0, 1), ("b", 0, 0))),)), family)

    def test_errors_in_their_order(self):
        family = Family(["a", "b"], 0, [[1], [2]])
        bad = [(1, [("z", 0, 1), ("y", 0, 1)])]
        self.assertIsInstance(raised(translated, family, [], bad), NoRows)
        for rows, kind, name in ((["q", "q", "Q"], BadName, "Q"), (["b", "a", "a", "b"], RowTwice, "a")):
            error = raised(translated, family, rows, bad)
            self.assertIsInstance(error, kind)
            self.assertEqual(error.name, name)
        for formulas in ([], bad * 3, [(1, ())]):
            error = raised(translated, family, ["p", "q"], formulas)
            self.assertIsInstance(error, BadParts)
            self.assertEqual(error.count, len(formulas))
        error = raised(translated, family, ["p", "q", "r"], [(1, [("c", 0, 0), ("a", 0, 1)])] + bad + [(1, [("x", 0, 1)])])
        self.assertIsInstance(error, UnknownRow)
        self.assertEqual(error.name, "y")

    def test_families_of_chance(self):
        for source in sources(60):
            rows = random_rows(source, 3)
            family = random_family(source, rows)
            formulas = [(source.randint(1, 4), random_sum(source, rows)) for _ in range(3)]
            found = translated(family, ["r", "p", "q"], formulas)
            self.assertEqual(found.rows, ("p", "q", "r"))
            for place in range(-5, 6):
                for row, (divisor, terms) in zip("pqr", formulas):
                    self.assertEqual(found(row, place), pair(naive_value(family, terms, place) / divisor))


def remainders(book):
    return [p for p in table(book) if p != ONE]


class CompareTest(unittest.TestCase):
    def assert_compared(self, one, two, source=None):
        found = compare(one, two)
        self.assertIsInstance(found, Likeness)
        alike = one.free_count == two.free_count and remainders(one) == remainders(two)
        self.assertIs(found.alike, alike)
        if not alike:
            self.assertEqual((found.there, found.back), (None, None))
            self.assertEqual(normal_polynomial(found.polynomial), found.polynomial)
            self.assertTrue(all_tuples(found.polynomial))
            self.assertNotEqual(count_obeying(one, found.polynomial), count_obeying(two, found.polynomial))
            return False
        self.assertIsNone(found.polynomial)
        for book, other, there, back in ((one, two, found.there, found.back), (two, one, found.back, found.there)):
            self.assertTrue(all_tuples(there))
            self.assertEqual(len(there), len(other.rows))
            for divisor, terms in there:
                self.assertEqual(gcd(divisor, *[c for _, _, c in terms]), 1)
                self.assertGreaterEqual(divisor, 1)
                self.assertTrue({row for row, _, _ in terms} <= set(book.rows))
            self.assert_translated_back(book, other, there, back)
            if source is not None:
                family = kept_family(source, book)
                self.assertTrue(keeps(other, translated(family, other.rows, there)))
                self.assertEqual(translated(translated(family, other.rows, there), book.rows, back), family)
        return True

    def assert_translated_back(self, book, other, there, back):
        """Check by what follows that `there` leads into the other book, and `back` undoes it."""
        def put_in(terms, formulas, rows):
            whole = 1
            for divisor, _ in formulas:
                whole *= divisor
            out = []
            for row, shift, c in terms:
                divisor, inner = formulas[rows.index(row)]
                out += sum_times([(shift, c * whole // divisor)], inner)
            return whole, out
        for rule in other.rules:
            self.assertIn(put_in(rule, there, other.rows)[1], book)
        for row, (divisor, terms) in zip(book.rows, back):
            whole, out = put_in(terms, there, other.rows)
            self.assertIn(list(out) + [(row, 0, -divisor * whole)], book)

    def test_known_books(self):
        self.assertTrue(self.assert_compared(PUMP, Book.free(["x"])))
        self.assertTrue(self.assert_compared(PUMP, PUMP))
        self.assertTrue(self.assert_compared(STILL, Book(["a", "b"], [[("a", 0, 1), ("b", 0, 2)], [("b", 5, 1), ("b", 4, -1)]])))
        self.assertFalse(self.assert_compared(PUMP, STILL))
        self.assertFalse(self.assert_compared(STILL, Book(["x"], [[("x", 1, 1), ("x", 0, 1)]])))
        self.assertFalse(self.assert_compared(STILL, Book.zero(["x"])))
        self.assertFalse(self.assert_compared(Book.free(["a"]), Book.free(["a", "b"])))

    def test_books_without_families(self):
        self.assertTrue(self.assert_compared(Book.zero(["a"]), Book.zero(["b", "c"])))
        found = compare(Book.zero(["a"]), Book.zero(["b", "c"]))
        self.assertEqual((found.there, found.back), (((1, ()), (1, ())), ((1, ()),)))

    def test_free_books(self):
        self.assertTrue(self.assert_compared(Book.free(["a", "b"]), Book.free(["c", "d"])))
        self.assertTrue(self.assert_compared(Book.free(["a", "b"]), blocked_book(Book.free(["q"]), 2)))

    def test_tables_that_differ_late_or_early(self):
        one, two = [(0, -1), (1, 1)], [(0, 1), (1, 1)]
        def diagonal(*polynomials):
            rows = list("abcd")[:len(polynomials)]
            return Book(rows, [[(row, shift, c) for shift, c in p] for row, p in zip(rows, polynomials)])
        books = [
            diagonal(one, two), diagonal(one, one), diagonal(one), diagonal([(0, -1), (2, 1)]),
            diagonal(one, [(0, -1), (2, 1)]), diagonal(two, [(0, -1), (2, 1)]), diagonal([(0, 1)], one, one, two),
            diagonal(two, two), diagonal([(0, 1), (1, -2), (2, 1)]),
        ]
        count = sum(self.assert_compared(first, second) for first in books for second in books)
        self.assertEqual(count, len(books) + 4)

    def test_books_of_chance(self):
        counts = [0, 0]
        for source in sources(150):
            one = random_book(source, random_rows(source, 3))
            two = random_book(source, random_rows(source, 3))
            if source.randint(0, 1):
                two = self.disguised(source, one)
            counts[self.assert_compared(one, two, source)] += 1
            first, second = compare(one, two), compare(equal_book(source, one), equal_book(source, two))
            self.assertEqual((first.there, first.back, first.polynomial), (second.there, second.back, second.polynomial))
        self.assertTrue(min(counts) > 30, counts)

    def disguised(self, source, book):
        """Return a book that is alike: a new row is told by the old ones and told instead of one."""
        row = source.choice(book.rows)
        others = [(name, source.randint(-1, 1), source.randint(-2, 2)) for name in book.rows if name != row]
        told = [("q", source.randint(-2, 2), 1), (row, 0, source.choice([1, -2]))] + others
        whole = Book(list(book.rows) + ["q"], list(book.rules) + [told])
        if source.randint(0, 1):
            return whole
        return shown_book(whole, [name for name in whole.rows if name != row])


if __name__ == "__main__":
    unittest.main()
