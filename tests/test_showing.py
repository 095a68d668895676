import unittest

from helpers import (
    all_tuples, equal_book, kept_family, random_book, random_family, random_rows, raised, rank, sources, window_lines,
)
from joinpast.books import Book
from joinpast.courses import course
from joinpast.errors import Broken, RowsDiffer
from joinpast.explaining import strictest
from joinpast.families import Family
from joinpast.keeping import first_break
from joinpast.showing import first_unshown, shows, unshown_rule
from joinpast.windows import window_freedom

PUMP = Book(["level", "pump"], [[("level", 1, 1), ("level", 0, -1), ("pump", 0, -1)]])
LINE = [(0, 1), (1, -2), (2, 1)]
FILLING = Family(PUMP.rows, 0, [[1, 3], [2, 2]], before=LINE, after=LINE)
TANK = Family(PUMP.rows, -1, [[1, 1, 3], [0, 2, 0]], before=[(0, -1), (1, 1)], after=[(0, -1), (1, 1)])


class ShowingTest(unittest.TestCase):
    def assert_shows(self, book, family, length):
        expected = rank(window_lines([family], length)) == window_freedom(book, length)
        self.assertIs(shows(book, family, length), expected)
        rule = unshown_rule(book, family, length)
        self.assertEqual(rule is None, expected)
        if rule is not None:
            self.assertTrue(all_tuples(rule))
            self.assertTrue(all(0 <= shift < length for _, shift, _ in rule))
            self.assertNotIn(rule, book)
            self.assertEqual(course(family, rule), Family.zero(["sum"]))
        return expected

    def test_known_families(self):
        shown = [self.assert_shows(PUMP, FILLING, length) for length in range(6)]
        self.assertEqual((shown, first_unshown(PUMP, FILLING)), ([True, True, False, False, False, False], 2))
        self.assertEqual([self.assert_shows(PUMP, TANK, length) for length in (0, 1, 2, 9)], [True] * 4)
        self.assertIsNone(first_unshown(PUMP, TANK))
        pulse = Family.pulse(["x"], "x")
        self.assertEqual([self.assert_shows(Book.free(["x"]), pulse, length) for length in (0, 1, 5, 24)], [True] * 4)
        self.assertIsNone(first_unshown(Book.free(["x"]), pulse))

    def test_families_of_zeros(self):
        zero = Family.zero(PUMP.rows)
        self.assertEqual([self.assert_shows(PUMP, zero, length) for length in (0, 1, 2)], [True, False, False])
        self.assertEqual(first_unshown(PUMP, zero), 1)
        self.assertEqual([self.assert_shows(Book.zero(PUMP.rows), zero, length) for length in (0, 1, 9)], [True] * 3)
        self.assertIsNone(first_unshown(Book.zero(PUMP.rows), zero))

    def test_a_length_beyond_all_that_may_be_passed(self):
        rule = [("x", 40, 1), ("x", 0, -1)]
        long = Family(["x"], 0, [[1] + [0] * 39], before=[(0, -1), (40, 1)], after=[(0, -1), (40, 1)])
        self.assertTrue(course(long, rule).extent() is None)
        self.assertEqual(first_unshown(Book.free(["x"]), long), 41)
        self.assertIs(shows(Book.free(["x"]), long, 24), True)
        self.assertIsNone(unshown_rule(Book.free(["x"]), long, 24))

    def test_errors_in_their_order(self):
        broken = Family.pulse(PUMP.rows, "level", place=-3)
        calls = [lambda *passed: shows(*passed, 2), lambda *passed: unshown_rule(*passed, 0), first_unshown]
        for call in calls:
            error = raised(call, PUMP, Family.pulse(["level"], "level"))
            self.assertIsInstance(error, RowsDiffer)
            self.assertEqual((error.one, error.two), (("level", "pump"), ("level",)))
            error = raised(call, PUMP, broken)
            self.assertIsInstance(error, Broken)
            self.assertEqual((error.place, error.index), first_break(PUMP, broken))

    def test_how_a_family_is_written_down_does_not_matter(self):
        for source in sources(40):
            book = random_book(source, random_rows(source, 3))
            family = kept_family(source, book)
            other = random_family(source, list(book.rows))
            again = family + other - other
            self.assertEqual([unshown_rule(book, again, length) for length in range(6)],
                             [unshown_rule(book, family, length) for length in range(6)])

    def test_books_of_chance(self):
        lengths = {}
        for source in sources(100):
            book = random_book(source, random_rows(source, 3))
            family = kept_family(source, book)
            shown = [self.assert_shows(book, family, length) for length in range(9)]
            first = first_unshown(book, family)
            self.assertEqual(first is None, strictest([family]) == book)
            if first is None or first > 8:
                self.assertTrue(all(shown))
            else:
                self.assertEqual(shown, [length < first for length in range(9)])
            other = equal_book(source, book)
            self.assertEqual([first_unshown(other, family), unshown_rule(other, family, 5)],
                             [first, unshown_rule(book, family, 5)])
            lengths[first] = lengths.get(first, 0) + 1
        self.assertGreater(len(lengths), 5, lengths)


if __name__ == "__main__":
    unittest.main()
