import unittest

from helpers import (
    equal_book, kept_family, naively_follows, random_book, random_rows, random_sum, raised, same, sources,
)
from joinpast.books import Book
from joinpast.comparing import within
from joinpast.errors import Broken, RowsDiffer
from joinpast.families import Family
from joinpast.gaps import is_steerable, least_gap
from joinpast.keeping import keeps
from joinpast.ownrules import own_rule
from joinpast.selfgoing import obeys
from joinpast.steering import split, steerable_part
from joinpast.sums import sum_times
from joinpast.tables import table

SAME = [(0, -1), (1, 1)]
STEADY = Book(["x"], [[("x", 0, 1), ("x", 1, -1)]])
COMMON = Book(["a", "b"], [[("a", 1, 1), ("a", 0, -1), ("b", 1, 2), ("b", 0, -2)]])
PUMP = Book(["level", "pump"], [[("level", 1, 1), ("level", 0, -1), ("pump", 0, -1)]])


class SteerablePartTest(unittest.TestCase):
    def test_known_books(self):
        self.assertEqual(steerable_part(COMMON).rules, ((("a", 0, 1), ("b", 0, 2)),))
        self.assertEqual(steerable_part(STEADY), Book.zero(["x"]))
        self.assertEqual(steerable_part(PUMP), PUMP)
        self.assertEqual(steerable_part(Book.free(["a", "b"])), Book.free(["a", "b"]))
        self.assertEqual(steerable_part(Book.zero(["a", "b"])), Book.zero(["a", "b"]))
        rules = [[("a", 0, 1), ("b", 1, 1), ("c", 0, 2)], [("b", 0, 1), ("c", 2, -3)]]
        steered = Book(["a", "b", "c"], rules)
        twice = Book(["a", "b", "c"], [sum_times([(0, 1), (2, 1)], rules[0]), sum_times([(0, -2), (1, 1)], rules[1])])
        self.assertEqual(steerable_part(steered), steered)
        self.assertEqual(steerable_part(twice), steered)

    def test_its_given_rules_are_the_least_form(self):
        book = Book(["level", "pump"], [sum_times([(3, -2)], PUMP.rules[0]), []])
        for known in (book, COMMON, STEADY, Book.free(["a"])):
            found = steerable_part(known)
            self.assertEqual(found.given, found.rules)

    def test_books_of_chance(self):
        for source in sources(150):
            rows = random_rows(source, 4)
            book = random_book(source, rows)
            part = steerable_part(book)
            self.assertEqual(part, steerable_part(equal_book(source, book)))
            self.assertEqual((part.rows, len(part)), (book.rows, len(book)))
            self.assertTrue(within(part, book) and is_steerable(part))
            self.assertEqual(steerable_part(part), part)
            self.assertIs(is_steerable(book), part == book)
            last = table(book)[-1] if len(book) else ((0, 1),)
            for rule in part.rules:
                self.assertTrue(naively_follows(book.given, sum_times(last, rule), margin=25))
            terms = random_sum(source, rows)
            self.assertIs(terms in part, own_rule(book, terms) != ())
            family = kept_family(source, book)
            joinable = least_gap(book, family, Family.zero(rows)) is not None
            self.assertIs(keeps(part, family), joinable)


class SplitTest(unittest.TestCase):
    def assert_split(self, book, family):
        found = split(book, family)
        self.assertIsInstance(found, tuple)
        steered, going = found
        self.assertEqual(steered + going, family)
        self.assertTrue(keeps(steerable_part(book), steered))
        self.assertTrue(keeps(book, going))
        self.assertTrue(obeys(going, table(book)[-1] if len(book) else [(0, 1)]))
        return found

    def test_known_books(self):
        five = Family(["x"], 0, [[5]], before=SAME, after=SAME)
        self.assertTrue(same(self.assert_split(STEADY, five), (Family.zero(["x"]), five)))
        pulse = Family.pulse(["a"], "a", place=-30)
        self.assertTrue(same(self.assert_split(Book.free(["a"]), pulse), (pulse, Family.zero(["a"]))))
        full = Family(["level", "pump"], 0, [[1], [0]], before=SAME, after=SAME)
        self.assertTrue(same(self.assert_split(PUMP, full), (full, Family.zero(["level", "pump"]))))
        mixed = Family(["a", "b"], 3, [[1, 7, 5, 1], [3, 0, 1, 3]], before=SAME, after=SAME)
        self.assertTrue(keeps(COMMON, mixed))
        self.assert_split(COMMON, mixed)
        self.assert_split(Book.zero(["a", "b"]), Family.zero(["a", "b"]))

    def test_errors_in_their_order(self):
        error = raised(split, COMMON, Family.pulse(["a"], "a"))
        self.assertIsInstance(error, RowsDiffer)
        self.assertEqual((error.one, error.two), (("a", "b"), ("a",)))
        book = Book(["a", "b"], [[], COMMON.rules[0]])
        error = raised(split, book, Family.pulse(["a", "b"], "b", place=-2))
        self.assertIsInstance(error, Broken)
        self.assertEqual((error.place, error.index), (-2, 1))

    def test_books_of_chance(self):
        for source in sources(100):
            rows = random_rows(source, 3)
            book = random_book(source, rows)
            family = kept_family(source, book)
            found = self.assert_split(book, family)
            self.assertTrue(same(split(equal_book(source, book), family), found))


if __name__ == "__main__":
    unittest.main()
