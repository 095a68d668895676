import unittest

from helpers import all_tuples, equal_book, followers, random_book, random_rows, random_rules, raised, sources
from joinpast.books import Book
from joinpast.errors import NotStricter, RowsDiffer, UnknownRow
from joinpast.fresh import are_fresh, fresh_rules
from joinpast.sums import sum_times
from joinpast.switching import switch

PUMP = Book(["level", "pump"], [[("level", 1, 1), ("level", 0, -1), ("pump", 0, -1)]])
STILL = Book(["x"], [[("x", 1, 1), ("x", 0, -1)]])


def growth(rules):
    """Return how many sums more follow for each further place: those that are independent."""
    return followers(rules, 30, margin=15) - followers(rules, 29, margin=15)


class AreFreshTest(unittest.TestCase):
    def test_known_rules(self):
        self.assertIs(are_fresh(PUMP, [[("level", 0, 1)]]), True)
        self.assertIs(are_fresh(PUMP, [PUMP.rules[0]]), False)
        self.assertIs(are_fresh(PUMP, [[("level", 0, 1)], [("pump", 0, 1)]]), False)
        self.assertIs(are_fresh(STILL, [[("x", 0, 1)]]), False)
        free = Book.free(["a", "b"])
        self.assertIs(are_fresh(free, [[("a", 0, 1)], [("b", 3, 1), ("a", 1, 1)]]), True)
        self.assertIs(are_fresh(free, [[("a", 0, 1)], [("a", 3, 1), ("a", 1, 1)]]), False)
        self.assertIs(are_fresh(free, [[("a", 0, 1)], [("b", 0, 1)], [("a", 0, 1), ("b", 0, 1)]]), False)

    def test_no_rules_and_zero_rules(self):
        for book in (PUMP, STILL, Book.free(["a"]), Book.zero(["a"])):
            self.assertIs(are_fresh(book, []), True)
            self.assertIs(are_fresh(book, [[]]), False)
            self.assertIs(are_fresh(book, [[(book.rows[0], 3, 1), (book.rows[0], 3, -1)]]), False)

    def test_errors(self):
        error = raised(are_fresh, PUMP, [[("q", 0, 0)], [], [("z", 0, 1), ("y", 1, 1)], [("a", 0, 1)]])
        self.assertIsInstance(error, UnknownRow)
        self.assertEqual(error.name, "y")
        self.assertIs(are_fresh(PUMP, [[("q", 0, 0), ("level", 0, 1)]]), True)

    def test_rules_of_chance(self):
        count = 0
        for source in sources(150):
            rows = random_rows(source, 4)
            book = random_book(source, rows, shift=1)
            rules = random_rules(source, rows, most=2, shift=1)
            found = are_fresh(book, rules)
            self.assertIs(found, growth(list(book.rules) + rules) == len(book) + len(rules))
            count += found
        self.assertTrue(30 < count < 120, count)


class FreshRulesTest(unittest.TestCase):
    def assert_fresh(self, book, wish):
        rules = fresh_rules(book, wish)
        if rules is None:
            self.assertIsNone(switch(book, wish).gap)
            return None
        self.assertIsNotNone(switch(book, wish).gap)
        self.assertTrue(all_tuples(rules))
        self.assertEqual(len(rules), len(wish) - len(book))
        self.assertTrue(are_fresh(book, rules))
        self.assertEqual(book & Book(book.rows, rules), wish)
        return len(rules)

    def test_known_wishes(self):
        self.assertEqual(self.assert_fresh(PUMP, Book.zero(PUMP.rows)), 1)
        self.assertEqual(fresh_rules(PUMP, Book.zero(PUMP.rows)), ((("level", 0, 1),),))
        self.assertEqual(self.assert_fresh(Book.free(["x"]), STILL), 1)
        self.assertIsNone(self.assert_fresh(STILL, Book.zero(["x"])))
        self.assertEqual(self.assert_fresh(Book.free(["a", "b", "c"]), Book.zero(["a", "b", "c"])), 3)
        late = Book(["a", "b"], [sum_times([(0, 2), (1, 3), (2, 1)], [("a", 0, 1), ("b", 1, 2)])])
        self.assertIsNone(self.assert_fresh(late, Book.zero(["a", "b"])))
        self.assertEqual(self.assert_fresh(late, late & Book(["a", "b"], [sum_times([(0, 1), (1, 5)], late.rules[0])])), 0)

    def test_the_book_itself(self):
        for book in (PUMP, STILL, Book.free(["a", "b"]), Book.zero(["a"])):
            self.assertEqual(fresh_rules(book, book), ())

    def test_errors_in_their_order(self):
        error = raised(fresh_rules, STILL, PUMP)
        self.assertIsInstance(error, RowsDiffer)
        self.assertEqual((error.one, error.two), (("x",), ("level", "pump")))
        error = raised(fresh_rules, Book.zero(["a", "b"]), Book(["a", "b"], [[("a", 0, 1)]]))
        self.assertIsInstance(error, NotStricter)
        self.assertEqual(error.terms, (("b", 0, 1),))

    def test_books_of_chance(self):
        counts = {}
        for source in sources(150):
            rows = random_rows(source, 4)
            book = random_book(source, rows, shift=1)
            wish = book & random_book(source, rows, shift=1)
            found = self.assert_fresh(book, wish)
            counts[found] = counts.get(found, 0) + 1
            self.assertEqual(fresh_rules(equal_book(source, book), equal_book(source, wish)), fresh_rules(book, wish))
        self.assertTrue({None, 0, 1, 2} <= set(counts), counts)


if __name__ == "__main__":
    unittest.main()
