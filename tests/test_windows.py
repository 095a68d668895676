import unittest
from fractions import Fraction

from helpers import (
    all_tuples, followers, number, raised, random_entry, random_family, random_rows, random_rules, rank, sources,
)
from joinpast.books import Book
from joinpast.errors import BadStretch
from joinpast.shortest import reaches
from joinpast.sums import ordered, sum_plus
from joinpast.windows import can_stand, window_break, window_freedom, window_rules

PUMP = Book(["level", "pump"], [[("level", 1, 1), ("level", 0, -1), ("pump", 0, -1)]])


def leading(terms):
    return min((shift, row) for row, shift, _ in terms)


def value_in(rows, window, terms):
    return sum([c * number(window[rows.index(row)][shift]) for row, shift, c in terms], Fraction(0))


class WindowsTest(unittest.TestCase):
    def test_interface_example(self):
        self.assertEqual(window_rules(PUMP, 2), ((("level", 0, 1), ("level", 1, -1), ("pump", 0, 1)),))
        self.assertEqual(
            [can_stand(PUMP, [[0, 1], [1, 5]]), can_stand(PUMP, [[0, 1], [2, 5]]), window_freedom(PUMP, 3)],
            [True, False, 4],
        )

    def test_length_zero(self):
        for book in (PUMP, Book.zero(["a"]), Book.free(["a", "b"])):
            empty = [[] for _ in book.rows]
            self.assertEqual(window_rules(book, 0), ())
            self.assertIs(can_stand(book, empty), True)
            self.assertIsNone(window_break(book, empty))
            self.assertEqual(window_freedom(book, 0), 0)

    def test_books_without_rules_and_of_zeros(self):
        free, zero = Book.free(["a", "b"]), Book.zero(["a", "b"])
        self.assertEqual(window_rules(free, 24), ())
        self.assertEqual(window_freedom(free, 200), 400)
        self.assertIs(can_stand(free, [[1, (1, 3)], [7, 0]]), True)
        self.assertEqual(window_rules(zero, 2), (
            (("a", 0, 1),), (("b", 0, 1),), (("a", 1, 1),), (("b", 1, 1),),
        ))
        self.assertEqual(window_freedom(zero, 200), 0)
        self.assertIs(can_stand(zero, [[0, 0], [0, (0, 5)]]), True)
        self.assertIs(can_stand(zero, [[0, 0], [0, 1]]), False)
        self.assertEqual(window_break(zero, [[0, 1], [0, 1]]), (("a", 1, 1),))

    def test_the_order_and_the_form_of_the_rules(self):
        book = Book(["a", "b"], [[("b", 0, 2), ("a", 0, 4), ("a", 1, 6)]])
        self.assertEqual(window_rules(book, 3), (
            (("a", 0, 4), ("a", 2, -9), ("b", 0, 2), ("b", 1, -3)),
            (("a", 1, 2), ("a", 2, 3), ("b", 1, 1)),
        ))
        self.assertEqual(window_rules(book, 1), ())
        book = Book(["a", "b"], [[("a", 1, -1), ("b", 0, -3)]])
        self.assertEqual(window_rules(book, 2), ((("a", 1, 1), ("b", 0, 3)),))

    def test_a_window_may_break_only_what_fits(self):
        book = Book(["x"], [[("x", 0, 1), ("x", 3, -1)]])
        self.assertIs(can_stand(book, [[1, 2, 3]]), True)
        self.assertIs(can_stand(book, [[1, 2, 3, 1]]), True)
        self.assertEqual(window_break(book, [[1, 2, 3, 4, 4]]), (("x", 0, 1), ("x", 3, -1)))
        self.assertEqual(window_break(book, [[1, 2, 3, 1, 4]]), (("x", 1, 1), ("x", 4, -1)))
        self.assertIsNone(window_break(book, [[1, 2, 3, 1, 2]]))

    def test_window_freedom_counts_only_short_rules(self):
        book = Book(["x", "y"], [[("x", 0, 1), ("x", 3, -1)], [("y", 0, 1), ("y", 1, 1)]])
        self.assertEqual([window_freedom(book, length) for length in range(6)], [0, 2, 3, 4, 4, 4])
        self.assertEqual(window_freedom(book, 200), 4)

    def test_errors(self):
        for call in (can_stand, window_break):
            for window, count in (([[1]], 1), ([], 0), ([[], [], []], 3), ([[1], [2, 3]], 2), ([[1], []], 0)):
                error = raised(call, PUMP, window)
                self.assertIsInstance(error, BadStretch)
                self.assertEqual(error.count, count)

    def assert_window_rules(self, book, rules, length):
        found = window_rules(book, length)
        self.assertTrue(all_tuples(found))
        self.assertEqual(len(found), followers(rules, length))
        self.assertEqual(window_freedom(book, length), len(book.rows) * length - len(found))
        leads = [leading(terms) for terms in found]
        self.assertEqual(leads, sorted(leads))
        for terms in found:
            self.assertIn(terms, book)
            self.assertEqual(terms, ordered(terms))
            self.assertTrue(all(0 <= shift < length for _, shift, _ in terms))
            held = {(shift, row): c for row, shift, c in terms}
            self.assertGreater(held[leading(terms)], 0)
            self.assertEqual([lead for lead in leads if lead in held], [leading(terms)])
            self.assertEqual(Fraction(1, gcd_of([c for _, _, c in terms])), 1)
        return found

    def test_window_rules_of_chance(self):
        for source in sources(150):
            rows = random_rows(source, 3)
            rules = random_rules(source, rows)
            book = Book(rows, rules)
            for length in (1, 2, 3, 5):
                self.assert_window_rules(book, rules, length)

    def test_windows_of_chance(self):
        for source in sources(200):
            rows = random_rows(source, 2)
            book = Book(rows, random_rules(source, rows, most=2))
            length = source.randint(0, 4)
            window = [[random_entry(source) for _ in range(length)] for _ in rows]
            if source.randint(0, 1):
                window = random_family(source, rows).window(-1, length)
            broken = [terms for terms in window_rules(book, length) if value_in(rows, window, terms)]
            self.assertIs(can_stand(book, window), not broken)
            self.assertEqual(window_break(book, window), broken[0] if broken else None)

    def test_a_long_window_of_many_rows(self):
        rows = list("abcdef")
        rules = [[(row, 0, 2), (row, 1, -3), (after, 2, 1)] for row, after in zip(rows, rows[1:])]
        book = Book(rows, rules)
        found = self.assert_window_rules(book, rules, 24)
        self.assertEqual(len(found), sum(24 - each for each in reaches(book)))
        total = ()
        for terms in found[:5]:
            total = sum_plus(total, terms)
        self.assertIn(total, book)
        self.assertEqual(rank([{leading(terms): 1} for terms in found]), len(found))


def gcd_of(numbers):
    shared = 0
    for each in numbers:
        while each:
            shared, each = each, shared % each
    return abs(shared)


if __name__ == "__main__":
    unittest.main()
