import unittest
from itertools import combinations, permutations

from helpers import (
    all_tuples, equal_book, product, random_book, random_polynomial, random_rows, rank, raised, shifted_lines, sources,
)
from joinpast.blocks import blocked_book
from joinpast.books import Book
from joinpast.determinants import determinant
from joinpast.divisors import common
from joinpast.errors import ZeroPolynomial
from joinpast.polynomials import divides, normal_polynomial, poly_plus, span
from joinpast.shortest import reaches
from joinpast.steering import steerable_part
from joinpast.sums import part_of, sum_times
from joinpast.tables import count_obeying, period_count, table

ONE = ((0, 1),)
SAME = ((0, -1), (1, 1))


def naive_determinant(lines):
    total = ()
    for order in permutations(range(len(lines))):
        swaps = sum(one > two for at, one in enumerate(order) for two in order[at + 1:])
        part = [(0, -1 if swaps % 2 else 1)]
        for line, column in zip(lines, order):
            part = product(part, line[column])
        total = poly_plus(total, part)
    return total


def naive_divisor(book, size):
    scheme = [[part_of(rule, row) for row in book.rows] for rule in book.rules]
    found = ()
    for lines in combinations(scheme, size):
        for columns in combinations(range(len(book.rows)), size):
            found = common(found, naive_determinant([[line[at] for at in columns] for line in lines]))
    return found


def obeying_count(book, p):
    """Return the dimension of the families that keep a book and obey p, by windows.

    Such a family is given by as many places as p spans. The rules at all
    places ask for no more than those at as many places as p spans, once all
    entries are expressed by these.
    """
    length = span(p)
    plain = normal_polynomial(p)
    lines = shifted_lines([[(row, shift, c) for shift, c in plain] for row in book.rows], -6, length + 12)
    lines = lines + [line for line in shifted_lines(book.rules, -6, length + 12)]
    return len(book.rows) * (length + 19) - rank(lines)


class TableTest(unittest.TestCase):
    def test_interface_example(self):
        book = Book(["a", "b"], [[("a", 1, 1), ("a", 0, -1), ("b", 1, 2), ("b", 0, -2)]])
        self.assertEqual([table(book), period_count(book, 4)], [(SAME,), 5])

    def test_known_books(self):
        self.assertEqual(table(Book.free(["a", "b"])), ())
        self.assertEqual(table(Book.zero(["a", "b"])), (ONE, ONE))
        self.assertEqual(table(Book(["x"], [[("x", 3, -6), ("x", 1, 4)]])), (((0, -2), (2, 3)),))
        steps = [("a", 0, 1), ("a", 1, -1)], [("b", 0, 1), ("b", 1, -1)]
        self.assertEqual(table(Book(["a", "b"], steps)), (SAME, SAME))
        unlike = [("a", 0, 1), ("a", 1, -1)], [("b", 0, 1), ("b", 1, 1)]
        self.assertEqual(table(Book(["a", "b"], unlike)), (ONE, ((0, -1), (2, 1))))
        nested = [("a", 0, 1), ("a", 1, -1)], [("b", 0, 1), ("b", 2, -1)]
        self.assertEqual(table(Book(["a", "b"], nested)), (SAME, ((0, -1), (2, 1))))
        chained = [("a", 0, 1), ("a", 1, -1), ("b", 0, 1)], [("b", 0, 1), ("b", 1, -1)]
        self.assertEqual(table(Book(["a", "b"], chained)), (ONE, ((0, 1), (1, -2), (2, 1))))

    def test_books_of_chance(self):
        for source in sources(150):
            rows = random_rows(source, 3)
            book = random_book(source, rows)
            found = table(book)
            self.assertTrue(all_tuples(found))
            self.assertEqual(found, table(equal_book(source, book)))
            self.assertEqual(len(found), len(book))
            total = ONE
            for size, p in enumerate(found, 1):
                self.assertEqual(p, normal_polynomial(p))
                total = normal_polynomial(product(total, p))
                self.assertEqual(total, naive_divisor(book, size))
            self.assertTrue(all(divides(one, two) for one, two in zip(found, found[1:])))
            part = steerable_part(book)
            self.assertEqual(sum(span(p) for p in found), sum(reaches(book)) - sum(reaches(part)))

    def test_many_rows(self):
        rows = list("abcdef")
        rules = [[(row, 0, 2), (row, 1, -3), (after, 1, 1)] for row, after in zip(rows, rows[1:] + ["a"])]
        book = Book(rows, rules)
        self.assertEqual(table(book)[:5], (ONE,) * 5)
        self.assertEqual(span(table(book)[5]), 6)
        twice = Book(rows, [sum_times([(0, -1), (1, 1)], rule) for rule in rules[:3]])
        self.assertEqual(table(twice), (SAME,) * 3)


    def test_more_rows_than_can_be_passed(self):
        rows = list("abcdef")
        rules = [[(row, 0, 2), (row, 1, -3), (after, 1, 1)] for row, after in zip(rows, rows[1:])]
        wide = blocked_book(Book(rows, [sum_times([(0, -2), (1, 1)], rules[0])] + rules[1:]), 6)
        self.assertEqual((len(wide.rows), len(wide)), (36, 30))
        self.assertEqual(table(wide)[-2:], (ONE, ((0, -64), (1, 1))))


class DeterminantTest(unittest.TestCase):
    def test_determinants_of_chance(self):
        self.assertEqual(determinant([]), ONE)
        for source in sources(100):
            size = source.randint(1, 4)
            lines = [[product(random_polynomial(source), ONE) for _ in range(size)] for _ in range(size)]
            found = determinant(lines)
            expected = naive_determinant(lines)
            self.assertIn(found, (expected, product([(0, -1)], expected)))


class CountTest(unittest.TestCase):
    def test_known_counts(self):
        steady = Book(["x"], [[("x", 0, 1), ("x", 1, -1)]])
        self.assertEqual([period_count(steady, period) for period in (1, 2, 40)], [1, 1, 1])
        self.assertEqual([period_count(Book.free(["a", "b"]), period) for period in (1, 7, 40)], [2, 14, 80])
        self.assertEqual(period_count(Book.zero(["a"]), 12), 0)
        doubling = Book(["x"], [[("x", 1, 1), ("x", 0, -2)]])
        self.assertEqual([period_count(doubling, period) for period in (1, 2, 40)], [0, 0, 0])
        turning = Book(["x"], [[("x", 0, 1), ("x", 1, 1), ("x", 2, 1)]])
        self.assertEqual([period_count(turning, period) for period in (1, 2, 3, 39, 40)], [0, 0, 2, 2, 0])
        self.assertEqual(count_obeying(doubling, [(4, 2), (3, -4)]), 1)
        self.assertEqual(count_obeying(doubling, [[7, 5]]), 0)
        self.assertEqual(count_obeying(Book.free(["a", "b"]), [(7, 5)]), 0)
        self.assertEqual(count_obeying(Book.free(["a", "b"]), [(-3, 1), (7, 5)]), 20)

    def test_zero_polynomial(self):
        for book in (Book.free(["a"]), Book.zero(["a"])):
            for p in ([], [(3, 0)], [(1, 2), (1, -2)]):
                self.assertIsInstance(raised(count_obeying, book, p), ZeroPolynomial)

    def test_books_of_chance(self):
        for source in sources(120):
            rows = random_rows(source, 3)
            book = random_book(source, rows)
            p = random_polynomial(source) or [(0, -1), (2, 1)]
            if source.randint(0, 1) and len(book):
                p = product(table(book)[-1], p)
            if not normal_polynomial(p):
                continue
            self.assertEqual(count_obeying(book, p), obeying_count(book, p), (book.rules, p))
            self.assertEqual(count_obeying(equal_book(source, book), p), count_obeying(book, p))
            period = source.randint(1, 6)
            self.assertEqual(period_count(book, period), obeying_count(book, [(0, -1), (period, 1)]))


if __name__ == "__main__":
    unittest.main()
