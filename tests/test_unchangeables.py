import unittest

from helpers import all_tuples, equal_book, random_book, random_polynomial, random_rows, random_sum, raised, sources
from joinpast.books import Book
from joinpast.errors import UnknownRow
from joinpast.ownrules import own_rule
from joinpast.polynomials import divides, normal_polynomial, poly_times, polynomial
from joinpast.steering import steerable_part
from joinpast.sums import ordered, sum_plus, sum_times
from joinpast.tables import table
from joinpast.unchangeables import unchangeable_parts, unchangeables

ONE = ((0, 1),)
SAME = ((0, -1), (1, 1))


def minus(terms, factors, pairs):
    """Return the sum less the factors applied to the sums of the pairs."""
    total = ordered(terms)
    for factor, (rule, _) in zip(factors, pairs):
        total = sum_plus(total, sum_times([(shift, -c) for shift, c in factor], rule))
    return total


class UnchangeablesTest(unittest.TestCase):
    def assert_unchangeables(self, book, source=None):
        found = unchangeables(book)
        self.assertTrue(all_tuples(found))
        self.assertEqual([p for _, p in found], [p for p in table(book) if p != ONE])
        for terms, p in found:
            self.assertEqual(terms, ordered(terms))
            self.assertEqual(own_rule(book, terms), p)
        for rule in steerable_part(book):
            self.assert_parts(book, rule)
        # The families in which the other sums are 0 must still leave each its own rule.
        for terms, p in found:
            others = [other for other, _ in found if other != terms]
            self.assertEqual(own_rule(Book(book.rows, list(book.rules) + others), terms), p)
        return found

    def assert_parts(self, book, terms):
        found = unchangeable_parts(book, terms)
        if own_rule(book, terms) == ():
            self.assertIsNone(found)
            return None
        self.assertTrue(all_tuples(found))
        multiplier, factors = found
        pairs = unchangeables(book)
        self.assertGreaterEqual(multiplier, 1)
        self.assertEqual(len(factors), len(pairs))
        self.assertEqual(factors, tuple(polynomial(factor) for factor in factors))
        self.assertIn(minus(sum_times([(0, multiplier)], terms), factors, pairs), book)
        return found

    def test_known_books(self):
        common = Book(["a", "b"], [[("a", 1, 1), ("a", 0, -1), ("b", 1, 2), ("b", 0, -2)]])
        (terms, p), = self.assert_unchangeables(common)
        self.assertEqual((terms, p), ((("a", 0, 1), ("b", 0, 2)), SAME))
        self.assertEqual(self.assert_parts(common, [("a", 2, 3), ("b", 2, 6)])[1][0][0][1] != 0, True)
        self.assertIsNone(unchangeable_parts(common, [("a", 0, 1)]))
        for book in (Book.free(["a"]), Book.zero(["a"]), Book(["a", "b"], [[("a", 0, 1), ("b", 1, 1)]])):
            self.assertEqual(self.assert_unchangeables(book), ())
        self.assertEqual(unchangeable_parts(Book.zero(["a"]), [("a", 2, 3)])[1], ())
        self.assertIsNone(unchangeable_parts(Book.free(["a"]), [("a", 2, 3)]))
        self.assertEqual(unchangeable_parts(Book.free(["a"]), [])[1], ())

    def test_several_polynomials(self):
        steps = [[("a", 0, 1), ("a", 1, -1)], [("b", 0, 1), ("b", 1, -1)]]
        self.assertEqual(len(self.assert_unchangeables(Book(["a", "b"], steps))), 2)
        nested = [[("a", 0, 1), ("a", 1, -1)], [("b", 0, 1), ("b", 2, -1)]]
        self.assertEqual([p for _, p in self.assert_unchangeables(Book(["a", "b"], nested))], [SAME, ((0, -1), (2, 1))])
        rows = ["a", "b", "c", "d"]
        rules = [[("a", 0, 1), ("d", 1, 1)], [("b", 0, 1), ("d", 2, 1)], [("c", 1, 1), ("d", 0, -3)]]
        powers = [[(0, -1), (1, 1)], [(0, 1), (1, -2), (2, 1)], [(0, -1), (1, 3), (2, -3), (3, 1)]]
        book = Book(rows, [sum_times(p, rule) for p, rule in zip(powers, rules)])
        self.assertEqual([p for _, p in self.assert_unchangeables(book)], [normal_polynomial(p) for p in powers])
        mixed = Book(rows, [
            sum_plus(book.given[0], book.given[2]), book.given[1], sum_plus(book.given[2], sum_times([(1, 2)], book.given[1])),
        ])
        self.assertEqual(len(self.assert_unchangeables(mixed)), 3)

    def test_polynomials_that_divide_only_multiples(self):
        rows = ["a", "b", "c"]
        p = [(0, 2), (1, 3)]
        rules = [[("a", 0, 1), ("b", 1, 5), ("c", 0, 2)], [("b", 0, 2), ("c", 1, 7)], [("c", 0, 3)]]
        powers = [sum_times(p, rules[0]), sum_times(p, sum_times(p, rules[1])), sum_times(p, sum_times(p, rules[2]))]
        book = Book(rows, [
            sum_plus(powers[0], sum_times([(1, 2)], powers[1])), sum_plus(powers[1], sum_times([(0, 3)], powers[2])), powers[2],
        ])
        found = self.assert_unchangeables(book)
        self.assertEqual([normal_polynomial(q)[-1][1] for _, q in found], [3, 9, 9])
        for source in sources(60):
            mixed = [sum_times([(0, source.randint(1, 3)), (1, source.randint(-1, 1))], rule) for rule in rules]
            mixed[1] = sum_plus(mixed[1], sum_times([(source.randint(0, 1), 2)], mixed[0]))
            mixed[2] = sum_plus(mixed[2], sum_times([(0, source.randint(-2, 2))], mixed[1]))
            factors = [p, poly_times(p, [(0, -1), (1, 2)]), poly_times(p, poly_times(p, [(0, -1), (1, 2)]))]
            source.shuffle(factors)
            self.assert_unchangeables(Book(rows, [sum_times(q, rule) for q, rule in zip(factors, mixed)]))

    def test_a_sum_that_follows_has_parts_that_follow(self):
        book = Book(["x"], [[("x", 0, 1), ("x", 1, -1)]])
        multiplier, (factor,) = unchangeable_parts(book, book.rules[0])
        self.assertTrue(divides(SAME, factor))
        self.assertEqual(self.assert_parts(book, []), (1, ((),)))
        self.assertGreaterEqual(multiplier, 1)

    def test_unknown_row(self):
        book = Book.free(["a"])
        error = raised(unchangeable_parts, book, [("z", 0, 1), ("y", 0, 1), ("b", 0, 0)])
        self.assertIsInstance(error, UnknownRow)
        self.assertEqual(error.name, "y")

    def test_books_of_chance(self):
        several = 0
        for source in sources(120):
            rows = random_rows(source, 3)
            book = random_book(source, rows)
            found = self.assert_unchangeables(book)
            several += len(found) > 1
            other = equal_book(source, book)
            self.assertEqual(unchangeables(other), found)
            terms = random_sum(source, rows)
            self.assert_parts(book, terms)
            total = ()
            factors = [random_polynomial(source) for _ in found]
            for factor, (rule, _) in zip(factors, found):
                total = sum_plus(total, sum_times(factor, rule))
            self.assert_parts(book, total)
            self.assertEqual(unchangeable_parts(other, total), unchangeable_parts(book, total))
            self.assertIs(total in book, all(divides(p, factor) for factor, (_, p) in zip(factors, found)))
        self.assertGreater(several, 10)


if __name__ == "__main__":
    unittest.main()
