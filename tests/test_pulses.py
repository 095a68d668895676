import unittest

from helpers import (
    all_tuples, equal_book, finite_count, kept_family, number, pair, raised, random_book, random_entry, random_rows,
    same, sources,
)
from joinpast.books import Book
from joinpast.errors import BadParts, Broken, NotFinite, RowsDiffer
from joinpast.families import Family
from joinpast.keeping import keeps
from joinpast.pulseparts import from_pulses, pulse_parts
from joinpast.pulses import pulses, widths
from joinpast.shortest import reaches
from joinpast.steering import steerable_part

ROWS = ["level", "pump"]
PUMP = Book(ROWS, [[("level", 1, 1), ("level", 0, -1), ("pump", 0, -1)]])
SAME = [(0, -1), (1, 1)]


class PulsesTest(unittest.TestCase):
    def assert_pulses(self, book):
        found = pulses(book)
        self.assertIsInstance(found, tuple)
        self.assertEqual(len(found), book.free_count)
        self.assertTrue(all_tuples(widths(book)))
        for pulse, width in zip(found, widths(book)):
            self.assertTrue(keeps(book, pulse) and pulse.is_finite)
            self.assertEqual(pulse.extent(), (0, width))
            self.assertEqual(pulse.rows, book.rows)
        self.assertEqual(list(widths(book)), sorted(widths(book)))
        for width in (0, 1, 2, 4, 7):
            expected = sum(max(0, width + 1 - each) for each in widths(book))
            self.assertEqual(finite_count(book.given, book.rows, width), expected, book.given)
        self.assertEqual(sum(widths(book)), sum(reaches(steerable_part(book))))

    def test_known_books(self):
        self.assertEqual(widths(PUMP), (1,))
        self.assertEqual(pulses(Book.zero(["a"])), ())
        self.assertEqual(widths(Book.zero(["a"])), ())
        self.assertEqual(widths(Book.free(["a", "b"])), (0, 0))
        self.assertEqual(widths(Book(["x"], [[("x", 0, 1), ("x", 1, -1)]])), ())
        common = Book(["a", "b"], [[("a", 1, 1), ("a", 0, -1), ("b", 1, 2), ("b", 0, -2)]])
        self.assertEqual(widths(common), (0,))
        unlike = Book(["a", "b", "c"], [[("a", 0, 1), ("b", 3, 1), ("c", 5, 1)]])
        self.assertEqual(widths(unlike), (2, 3))
        for book in (PUMP, Book.zero(["a"]), Book.free(["a", "b"]), common, unlike):
            self.assert_pulses(book)

    def test_books_of_chance(self):
        for source in sources(120):
            rows = random_rows(source, 4)
            book = random_book(source, rows)
            self.assert_pulses(book)
            self.assertTrue(same(pulses(book), pulses(equal_book(source, book))))

    def test_long_rules_in_many_rows(self):
        rows = list("abcde")
        rules = [
            [(row, (7 * at + 3 * by) % 9, (5 * at * at + 3 * by + 1) % 11 - 5) for by, row in enumerate(rows * 2)]
            for at in range(3)
        ]
        book = Book(rows, rules)
        found = pulses(book)
        self.assertTrue(all(keeps(book, pulse) for pulse in found))
        self.assertEqual(sum(widths(book)), sum(reaches(book)))


class PulsePartsTest(unittest.TestCase):
    def assert_parts(self, book, family):
        parts = pulse_parts(book, family)
        self.assertTrue(all_tuples(parts))
        self.assertEqual(len(parts), book.free_count)
        for pairs in parts:
            places = [by for by, _ in pairs]
            self.assertEqual(places, sorted(set(places)))
            self.assertTrue(all(factor == pair(number(factor)) for _, factor in pairs))
            self.assertTrue(all(factor[0] != 0 for _, factor in pairs))
        self.assertEqual(from_pulses(book, parts), family)
        return parts

    def test_known_families(self):
        self.assertEqual(self.assert_parts(PUMP, Family.zero(ROWS)), ((),))
        self.assertEqual(self.assert_parts(Book.zero(["a"]), Family.zero(["a"])), ())
        free = Book.free(["a"])
        self.assertEqual(self.assert_parts(free, pulses(free)[0].moved(-30).scaled((3, 4))), (((-30, (3, 4)),),))
        tank = Family(ROWS, 5, [[0, 2, 2, 0], [2, 0, -2, 0]])
        self.assertEqual([by for by, _ in self.assert_parts(PUMP, tank)[0]], [5, 6])

    def test_from_pulses_adds_what_occurs_several_times(self):
        pulse = pulses(PUMP)[0]
        parts = [[[3, 2], [-1, [1, 2]], [3, -1], [0, 0], (3, (-4, -8)), (7, (0, 5))]]
        expected = pulse.moved(3).scaled((3, 2)) + pulse.moved(-1).scaled((1, 2))
        self.assertEqual(from_pulses(PUMP, parts), expected)
        self.assertEqual(pulse_parts(PUMP, expected), (((-1, (1, 2)), (3, (3, 2))),))
        self.assertEqual(pulse_parts(PUMP, from_pulses(PUMP, [[(4, 1), (4, -1)]])), ((),))
        self.assertEqual(from_pulses(PUMP, [[]]), Family.zero(ROWS))
        self.assertEqual(from_pulses(Book.zero(["a"]), []), Family.zero(["a"]))
        self.assertEqual(from_pulses(PUMP, [[(30, 1), (-30, 1)]]).extent(), (-30, 31))

    def test_errors_in_their_order(self):
        error = raised(pulse_parts, PUMP, Family.pulse(["x"], "x"))
        self.assertIsInstance(error, RowsDiffer)
        self.assertEqual((error.one, error.two), (("level", "pump"), ("x",)))
        endless = Family(ROWS, 0, [[1], [0]], after=SAME)
        error = raised(pulse_parts, PUMP, endless.moved(3))
        self.assertIsInstance(error, Broken)
        self.assertEqual((error.place, error.index), (2, 0))
        steady = Family(ROWS, 0, [[1], [0]], before=SAME, after=SAME)
        self.assertIsInstance(raised(pulse_parts, PUMP, steady), NotFinite)
        self.assertIsInstance(raised(pulse_parts, PUMP, endless + Family(ROWS, -1, [[0], [1]])), NotFinite)
        for parts in ([], [[], []], [[], [], []]):
            error = raised(from_pulses, PUMP, parts)
            self.assertIsInstance(error, BadParts)
            self.assertEqual(error.count, len(parts))
        self.assertEqual(raised(from_pulses, Book.zero(["a"]), [[]]).count, 1)

    def test_books_of_chance(self):
        for source in sources(100):
            rows = random_rows(source, 3)
            book = random_book(source, rows)
            parts = []
            for _ in range(book.free_count):
                by = {source.randint(-5, 5): random_entry(source) for _ in range(source.randint(0, 4))}
                parts.append([(at, by[at]) for at in sorted(by, reverse=True)])
            family = from_pulses(book, parts)
            self.assertTrue(keeps(book, family))
            expected = tuple(
                tuple(sorted((at, pair(number(c))) for at, c in pairs if number(c) != 0)) for pairs in parts
            )
            self.assertEqual(self.assert_parts(book, family), expected)
            self.assertEqual(pulse_parts(equal_book(source, book), family), expected)
            found = kept_family(source, book)
            if found.is_finite:
                self.assert_parts(book, found)


if __name__ == "__main__":
    unittest.main()
