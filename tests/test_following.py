import unittest

from helpers import all_tuples, naive_value, raised, random_polynomial, random_rows, random_rules, random_sum, sources
from joinpast.books import Book
from joinpast.errors import UnknownRow
from joinpast.following import counterexample, derivation, is_derivation
from joinpast.keeping import keeps
from joinpast.polynomials import polynomial
from joinpast.shortest import shortest
from joinpast.sums import ordered, sum_plus, sum_times
from joinpast.windows import window_rules

PUMP = Book(["level", "pump"], [[("level", 1, 1), ("level", 0, -1), ("pump", 0, -1)]])


class FollowingTest(unittest.TestCase):
    def assert_answers(self, book, terms):
        paper = derivation(book, terms)
        example = counterexample(book, terms)
        if terms in book:
            self.assertTrue(all_tuples(paper))
            multiplier, factors = paper
            self.assertGreaterEqual(multiplier, 1)
            self.assertEqual(len(factors), len(book.given))
            self.assertEqual(factors, tuple(polynomial(factor) for factor in factors))
            total = ()
            for factor, rule in zip(factors, book.given):
                total = sum_plus(total, sum_times(factor, rule))
            self.assertEqual(total, ordered([(row, shift, multiplier * c) for row, shift, c in terms]))
            self.assertIs(is_derivation(book, terms, paper), True)
            self.assertIsNone(example)
        else:
            self.assertIsNone(paper)
            self.assertEqual(example.rows, book.rows)
            self.assertTrue(keeps(book, example))
            self.assertNotEqual(naive_value(example, terms, 0), 0)

    def test_known_books(self):
        self.assert_answers(PUMP, [("level", 2, 1), ("level", 0, -1), ("pump", 0, -1), ("pump", 1, -1)])
        self.assert_answers(PUMP, [("level", 20, 1)])
        self.assert_answers(PUMP, [("pump", -20, 1), ("pump", 20, 1)])
        self.assert_answers(Book.zero(["a"]), [("a", -20, 7)])
        self.assert_answers(Book.free(["a"]), [("a", -20, 7)])

    def test_the_zero_sum(self):
        for book in (PUMP, Book.free(["a"]), Book(["a"], [[], []])):
            for terms in ([], [("z", 0, 0)], [(book.rows[0], 1, 1), (book.rows[0], 1, -1)]):
                self.assert_answers(book, terms)
        self.assertEqual(derivation(Book.free(["a"]), [])[1], ())

    def test_needless_zero_and_repeated_rules(self):
        rule = [("a", 0, 1), ("b", 1, -1)]
        book = Book(["a", "b"], [[], rule, rule, sum_times([(3, 2), (0, 1)], rule), [("b", 0, 0)]])
        self.assert_answers(book, rule)
        self.assert_answers(book, sum_times([(-4, 5), (1, 1)], rule))
        self.assert_answers(book, [("a", 0, 1)])

    def test_many_needless_rules(self):
        rows = list("abcdef")
        rules = [
            [(row, (5 * at + 2 * by) % 7 - 3, (3 * at * at + 4 * by) % 19 - 9) for by, row in enumerate(rows)]
            for at in range(4)
        ]
        book = Book(rows, rules)
        wide = Book(rows, window_rules(book, 20))
        self.assertGreater(len(wide.given), 40)
        self.assertEqual(wide, book)
        for rule in book.rules + shortest(book):
            self.assert_answers(wide, rule)

    def test_a_sum_that_follows_only_when_multiplied(self):
        book = Book(["a"], [[("a", 0, 2)]])
        self.assert_answers(book, [("a", 0, 1)])
        self.assertFalse(is_derivation(book, [("a", 0, 1)], (1, [[(0, 1)]])))
        self.assertTrue(is_derivation(book, [("a", 0, 1)], (2, [[(0, 1)]])))
        self.assertTrue(is_derivation(book, [("a", 0, 1)], [4, [[[0, 1], [0, 1]]]]))
        book = Book(["a", "b"], [[("a", 0, 3), ("b", 1, 2)], [("b", 0, 5), ("b", 2, 5)]])
        self.assert_answers(book, [("a", 0, 3), ("a", 2, 3)])

    def test_is_derivation(self):
        one, two = [("a", 0, 1), ("b", 0, 1)], [("b", 1, 1)]
        book = Book(["a", "b"], [one, two])
        terms = sum_plus(sum_times([(1, 2), (0, 1)], one), sum_times([(-1, 3)], two))
        good = [[(0, 1), (1, 2)], [(-1, 3)]]
        self.assertTrue(is_derivation(book, terms, (1, good)))
        self.assertTrue(is_derivation(book, sum_times([(0, 7)], terms), (1, [sum_pairs(p, 7) for p in good])))
        self.assertTrue(is_derivation(book, terms, (10 ** 40, [sum_pairs(p, 10 ** 40) for p in good])))
        for wrong in ((0, [[], []]), (-1, [sum_pairs(p, -1) for p in good]), (2, good), (1, good[:1]), (1, []),
                      (1, good + [[]]), (1, [good[0], []]), (1, good[::-1]), (1, [good[0], [(-1, 3), (0, 1)]])):
            self.assertIs(is_derivation(book, terms, wrong), False, wrong)
        self.assertIs(is_derivation(book, [], (0, [[], []])), False)
        self.assertIs(is_derivation(book, [], (5, [[], []])), True)
        self.assertIs(is_derivation(book, [], (5, [[(3, 1)], [(2, 0)]])), False)

    def test_unknown_row(self):
        terms = [("z", 0, 1), ("y", 0, 1), ("x", 0, 0)]
        for call in (lambda: derivation(PUMP, terms), lambda: counterexample(PUMP, terms),
                     lambda: is_derivation(PUMP, terms, (0, []))):
            error = raised(call)
            self.assertIsInstance(error, UnknownRow)
            self.assertEqual(error.name, "y")

    def test_books_of_chance(self):
        for source in sources(200):
            rows = random_rows(source, 3)
            rules = random_rules(source, rows, most=4)
            book = Book(rows, rules)
            mixed = ()
            for rule in rules:
                mixed = sum_plus(mixed, sum_times(random_polynomial(source), rule))
            self.assert_answers(book, mixed)
            self.assert_answers(book, random_sum(source, rows))
            for rule in book.rules:
                self.assert_answers(book, rule)
                self.assert_answers(book, rule[:-1])

    def test_equal_books_with_the_same_given_rules(self):
        rules = [[("a", 0, 1), ("b", 1, 1)], [("a", 1, 1), ("b", 0, 2)]]
        terms = sum_times([(2, 1), (0, 3)], rules[0])
        one, two = Book(["a", "b"], rules), Book(("b", "a"), tuple(map(tuple, rules)))
        self.assertEqual(derivation(one, terms), derivation(two, list(terms)))
        more = Book(["a", "b"], rules[::-1] + [[]])
        wanted = [("a", 0, 1)]
        self.assertEqual(counterexample(one, wanted), counterexample(more, wanted))


def sum_pairs(p, times):
    return [(shift, times * c) for shift, c in p]


if __name__ == "__main__":
    unittest.main()
