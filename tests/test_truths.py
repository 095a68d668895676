import unittest
from itertools import combinations

from helpers import (
    all_tuples, equal_book, kept_family, random_book, random_family, random_rows, random_sum, raised, sources,
)
from joinpast.books import Book
from joinpast.courses import course
from joinpast.despites import despite
from joinpast.errors import Contradiction, UnknownRow, Unsure
from joinpast.families import Family
from joinpast.hiding import shown_book
from joinpast.keeping import keeps
from joinpast.truths import suspects, truth

SAME = Book(["a", "b", "c"], [[("a", 0, 1), ("b", 0, -1)], [("b", 0, 1), ("c", 0, -1)]])
PUMP = Book(["level", "pump"], [[("level", 1, 1), ("level", 0, -1), ("pump", 0, -1)]])


def read(*entries):
    return Family(list("abcdef")[:len(entries)], 0, [[entry] for entry in entries])


def naive_suspects(book, readings, liars):
    found = []
    for count in range(liars + 1):
        for rows in combinations(readings.rows, count):
            rest = [row for row in readings.rows if row not in rows]
            if any(set(smaller) <= set(rows) for smaller in found):
                continue
            if not rest or keeps(shown_book(book, rest), readings.only(rest)):
                found.append(rows)
    return tuple(found)


class SuspectsTest(unittest.TestCase):
    def test_interface_example(self):
        readings = Family(["a", "b", "c"], 0, [[5], [7], [5]])
        self.assertEqual(suspects(SAME, readings, liars=1), (("b",),))

    def test_smallest_sets_in_their_order(self):
        self.assertEqual(suspects(SAME, read(5, 7, 5), liars=4), (("b",), ("a", "c")))
        self.assertEqual(suspects(SAME, read(5, 6, 7), liars=2), (("a", "b"), ("a", "c"), ("b", "c")))
        self.assertEqual(suspects(SAME, read(5, 6, 7), liars=1), ())
        self.assertEqual(suspects(SAME, read(5, 7, 5), liars=0), ())
        self.assertEqual(suspects(SAME, read(5, 7), liars=1), (("a",), ("b",)))
        self.assertEqual(suspects(Book.zero(["a", "b"]), read(1, 2), liars=3), (("a", "b"),))
        self.assertEqual(suspects(Book.zero(["a", "b"]), read(1, 2), liars=1), ())

    def test_the_empty_set_may_have_lied(self):
        for liars in (0, 1, 4):
            self.assertEqual(suspects(SAME, read(5, 5, 5), liars=liars), ((),))
            self.assertEqual(suspects(Book.free(["a", "b"]), read(5), liars=liars), ((),))
            self.assertEqual(suspects(PUMP, Family.zero(["pump"]), liars=liars), ((),))

    def test_errors(self):
        error = raised(suspects, SAME, Family.zero(["x", "b", "d"]), liars=0)
        self.assertIsInstance(error, UnknownRow)
        self.assertEqual(error.name, "d")

    def test_books_of_chance(self):
        kinds = set()
        for source in sources(80):
            rows = random_rows(source, 4)
            book = random_book(source, rows, shift=1)
            named = source.sample(rows, source.randint(1, len(rows)))
            readings = kept_family(source, book).only(named)
            for row in source.sample(named, source.randint(0, len(named))):
                others = [name for name in named if name != row]
                lie = random_family(source, [row])
                readings = lie.beside(readings.only(others)) if others else lie
            liars = source.randint(0, 3)
            found = suspects(book, readings, liars=liars)
            self.assertEqual(found, naive_suspects(book, readings, min(liars, len(named))))
            self.assertTrue(all_tuples(found))
            self.assertEqual(suspects(equal_book(source, book), readings, liars=liars), found)
            kinds.add(found == () or (len(found), len(found[0])))
        self.assertGreater(len(kinds), 4)


class TruthTest(unittest.TestCase):
    def test_interface_example(self):
        found = truth(SAME, read(5, 7, 5), [("b", 0, 2)], liars=1)
        self.assertEqual((found.rows, found.entry("sum", 0)), (("sum",), (10, 1)))
        self.assertEqual(found, Family(["sum"], 0, [[10]]))

    def test_what_nobody_lied_about(self):
        tank = Family(["level"], 0, [[1, 3, 3]], before=[(0, -1), (1, 1)], after=[(0, -1), (1, 1)])
        self.assertEqual(truth(PUMP, tank, [("pump", 0, 2)], liars=0), Family(["sum"], 0, [[4]]))
        self.assertEqual(truth(SAME, read(5, 5, 5), [("a", 1, 1)], liars=1), Family(["sum"], -1, [[5]]))

    def test_sums_that_follow_are_true_whoever_lied(self):
        terms = [("a", 0, 1), ("b", 0, -1)]
        self.assertEqual(truth(SAME, read(5, 6, 7), terms, liars=3), Family.zero(["sum"]))
        self.assertEqual(truth(SAME, read(5, 6), [], liars=1), Family.zero(["sum"]))
        self.assertEqual(truth(Book.zero(["a"]), read(5), [("a", 0, 1)], liars=1), Family.zero(["sum"]))

    def test_errors_in_their_order(self):
        strange = Family.zero(["x", "b", "d"])
        self.assertEqual(raised(truth, SAME, strange, [("e", 0, 1)], liars=0).name, "d")
        error = raised(truth, SAME, read(5, 6), [("z", 0, 1), ("y", 0, 1), ("x", 0, 0)], liars=1)
        self.assertIsInstance(error, UnknownRow)
        self.assertEqual(error.name, "y")
        self.assertIsInstance(raised(truth, SAME, read(5, 6), [("c", 0, 1)], liars=1), Unsure)
        self.assertIsInstance(raised(truth, SAME, read(5, 6, 7), [("c", 0, 1)], liars=2), Unsure)
        self.assertIsInstance(raised(truth, SAME, read(5, 6, 7), [("c", 0, 1)], liars=1), Contradiction)
        self.assertIsInstance(raised(truth, SAME, read(5, 6), [("c", 0, 1)], liars=0), Contradiction)
        self.assertIsInstance(raised(truth, SAME, read(5, 6), [], liars=0), Contradiction)
        self.assertIsInstance(raised(truth, PUMP, Family(["pump"], 0, [[1]]), [("level", 0, 1)], liars=0), Unsure)

    def test_truths_of_chance(self):
        sure = 0
        for source in sources(120):
            rows = random_rows(source, 5)
            book = random_book(source, rows, shift=1)
            named = source.sample(rows, source.randint(1, len(rows)))
            family = kept_family(source, book)
            liars = source.randint(0, 2)
            lying = source.sample(named, min(source.randint(0, liars), len(named)))
            honest = [row for row in named if row not in lying]
            parts = [random_family(source, [row]) for row in lying] + [family.only([row]) for row in honest]
            readings = parts[0]
            for part in parts[1:]:
                readings = readings.beside(part)
            terms = random_sum(source, rows, terms=2)
            if despite(book, named, terms, liars=liars).sure:
                sure += 1
                found = truth(book, readings, terms, liars=liars)
                self.assertEqual(found, course(family, terms))
            else:
                self.assertIsInstance(raised(truth, book, readings, terms, liars=liars), Unsure)
        self.assertTrue(20 < sure < 100, sure)


if __name__ == "__main__":
    unittest.main()
