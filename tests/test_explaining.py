import unittest

from helpers import (
    Naive, followers, kept_family, random_book, random_family_parts, random_rows, raised, rank, sources, window_lines,
)
from joinpast.books import Book
from joinpast.comparing import within
from joinpast.errors import NoFamilies, RowsDiffer
from joinpast.explaining import explains, strictest
from joinpast.families import Family
from joinpast.keeping import keeps

GROWN = [(0, -1), (1, -1), (2, 1)]
PUMP = Book(["level", "pump"], [[("level", 1, 1), ("level", 0, -1), ("pump", 0, -1)]])


class ExplainsTest(unittest.TestCase):
    def test_known_families(self):
        tank = Family(PUMP.rows, -1, [[1, 1, 3], [0, 2, 0]], before=[(0, -1), (1, 1)], after=[(0, -1), (1, 1)])
        pulse = Family.pulse(PUMP.rows, "pump")
        self.assertIs(explains(PUMP, [tank, Family.zero(PUMP.rows)]), True)
        self.assertIs(explains(PUMP, [tank, pulse]), False)
        self.assertIs(explains(Book.free(PUMP.rows), (tank, pulse, pulse)), True)

    def test_no_families(self):
        for book in (PUMP, Book.zero(["a"]), Book.free(["a"])):
            self.assertIs(explains(book, []), True)

    def test_errors(self):
        wrong = [Family.pulse(PUMP.rows, "pump"), Family.zero(["pump"]), Family.zero(["a"])]
        error = raised(explains, PUMP, wrong)
        self.assertIsInstance(error, RowsDiffer)
        self.assertEqual((error.one, error.two), (("level", "pump"), ("pump",)))


class StrictestTest(unittest.TestCase):
    def test_interface_example(self):
        found = strictest([Family(["x"], 0, [[1, 2]], before=GROWN, after=GROWN)])
        self.assertEqual(found.rules, ((("x", 0, 1), ("x", 1, 1), ("x", 2, -1)),))
        self.assertEqual(found.given, found.rules)

    def test_families_of_zeros_only(self):
        for rows in (["a"], ["a", "b"]):
            self.assertEqual(strictest([Family.zero(rows)]), Book.zero(rows))
            self.assertEqual(strictest((Family.zero(rows), Family(rows, 3, [[0, 0]] * len(rows)))), Book.zero(rows))

    def test_known_families(self):
        self.assertEqual(strictest([Family.pulse(["x"], "x", place=7)]), Book.free(["x"]))
        self.assertEqual(strictest([Family(["x"], 0, [[1, 2]], after=GROWN)]), Book.free(["x"]))
        self.assertEqual(strictest([Family(["a", "b"], 0, [[1, 2], [2, 4]], after=GROWN)]).rules, ((("a", 0, 2), ("b", 0, -1)),))
        self.assertEqual(strictest([Family.pulse(["a", "b"], "a"), Family.pulse(["a", "b"], "b")]), Book.free(["a", "b"]))
        late = Family(["a", "b"], 0, [[3, 0, 1, 0], [0, 6, 0, 2]])
        self.assertEqual(strictest([late]).rules, ((("a", 0, 2), ("b", 1, -1)),))

    def test_families_that_go_by_themselves(self):
        ones = Family(["x"], 0, [[5]], before=[(0, -1), (1, 1)], after=[(0, -1), (1, 1)])
        turns = Family(["x"], 0, [[(2, 3)]], before=[(0, 1), (1, 1)], after=[(0, 1), (1, 1)])
        self.assertEqual(strictest([ones]).rules, ((("x", 0, 1), ("x", 1, -1)),))
        self.assertEqual(strictest([ones, turns]).rules, ((("x", 0, 1), ("x", 2, -1)),))
        self.assertEqual(strictest([ones + turns]), strictest([ones, turns]))
        self.assertEqual(strictest([ones, turns, ones - turns, ones.moved(7)]), strictest([turns, ones]))

    def test_different_ways_to_go_on(self):
        line = [(0, 1), (1, -2), (2, 1)]
        bent = Family(["x"], 0, [[3, 4]], before=[(0, -1), (1, 1)], after=line)
        self.assertEqual(bent.window(-2, 5), (((3, 1), (3, 1), (3, 1), (4, 1), (5, 1)),))
        self.assertEqual(strictest([bent]), Book.free(["x"]))
        steps = Family(["a", "b"], 0, [[0, 1], [1, 0]], before=[(0, -1), (1, 1)], after=[(0, -1), (1, 1)])
        rules = [[("a", 1, 1), ("a", 0, -1), ("b", 1, 1), ("b", 0, -1)]]
        self.assertTrue(explains(Book(["a", "b"], rules), [steps]))
        self.assertEqual(len(strictest([steps])), 1)
        self.assertTrue(within(strictest([steps]), Book(["a", "b"], rules)))

    def test_errors_in_their_order(self):
        self.assertIsInstance(raised(strictest, []), NoFamilies)
        error = raised(strictest, [Family.zero(["b", "a"]), Family.zero(["a", "b"]), Family.zero(["a"]), Family.zero(["c"])])
        self.assertIsInstance(error, RowsDiffer)
        self.assertEqual((error.one, error.two), (("a", "b"), ("a",)))

    def test_the_strictest_book_is_within_all_that_explain(self):
        for source in sources(60):
            book = random_book(source, random_rows(source, 3))
            families = [kept_family(source, book) for _ in range(source.randint(1, 4))]
            found = strictest(families)
            self.assertTrue(explains(found, families))
            self.assertTrue(within(found, book))
            other = random_book(source, list(book.rows))
            self.assertIs(explains(other, families), within(found, other))
            moved = [family.moved(source.randint(-3, 3)).scaled((-2, 3)) for family in families[::-1]]
            self.assertEqual(strictest(moved + families[:1]), found)

    def test_the_number_of_sums_is_right(self):
        counts = set()
        for source in sources(100):
            rows = random_rows(source, 3)
            parts = [random_family_parts(source, rows) for _ in range(source.randint(1, 3))]
            families = [Family(*passed, **ends) for passed, ends in parts]
            found = strictest(families)
            for family, (passed, ends) in zip(families, parts):
                self.assertTrue(keeps(found, family))
                naive = Naive(*passed, **ends)
                self.assertEqual([family(row, 4) for row in rows], [naive(row, 4).as_integer_ratio() for row in rows])
            for length in (1, 2, 4, 7):
                free = len(rows) * length - rank(window_lines(families, length))
                self.assertEqual(followers(found.rules, length, margin=25), free)
            counts.add(len(found))
        self.assertEqual(counts, {0, 1, 2, 3})


if __name__ == "__main__":
    unittest.main()
