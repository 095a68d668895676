import unittest
from itertools import combinations

from helpers import all_tuples, equal_book, random_book, random_rows, random_sum, raised, sources
from joinpast.blocks import blocked_book
from joinpast.books import Book
from joinpast.errors import UnknownRow
from joinpast.fewest import fewest_shown
from joinpast.seeing import formula

PUMP = Book(["level", "pump"], [[("level", 1, 1), ("level", 0, -1), ("pump", 0, -1)]])


def naive_fewest(book, wanted):
    for count in range(len(book.rows) + 1):
        for shown in combinations(book.rows, count):
            if all(formula(book, shown, terms) is not None for terms in wanted):
                return shown
    return None


class FewestTest(unittest.TestCase):
    def test_known_books(self):
        self.assertEqual(fewest_shown(PUMP, [[("pump", 0, 1)]]), ("level",))
        self.assertEqual(fewest_shown(PUMP, [[("level", 3, 2)]]), ("level",))
        self.assertEqual(fewest_shown(PUMP, [[("level", 1, 1), ("level", 0, -1)]]), ("level",))
        turned = Book(["a", "b"], [[("a", 0, 1), ("b", 1, -1), ("b", 0, 1)]])
        self.assertEqual(fewest_shown(turned, [[("a", 0, 1)]]), ("a",))
        self.assertEqual(fewest_shown(turned, [[("a", 0, 1)], [("b", 0, 1)]]), ("b",))
        free = Book.free(["a", "b", "c"])
        self.assertEqual(fewest_shown(free, [[("c", 0, 1)], [("a", 2, 1)]]), ("a", "c"))
        self.assertEqual(fewest_shown(free, [[("c", 0, 1), ("b", 0, 1), ("a", 2, 1)]]), ("a", "b", "c"))

    def test_shorter_tuples_come_first_then_lesser_ones(self):
        rules = [[("a", 0, 1), ("b", 0, 1), ("c", 0, 1)], [("c", 0, 1), ("d", 0, 2)]]
        book = Book(["a", "b", "c", "d"], rules)
        self.assertEqual(fewest_shown(book, [[("d", 0, 1)]]), ("c",))
        self.assertEqual(fewest_shown(book, [[("a", 0, 1), ("b", 0, 1)]]), ("c",))
        self.assertEqual(fewest_shown(book, [[("a", 0, 1)], [("b", 0, 1)]]), ("a", "b"))
        self.assertEqual(fewest_shown(book, [[("d", 0, 1)], [("b", 0, 1)]]), ("a", "b"))
        self.assertEqual(fewest_shown(book, [[("b", 0, 1)]]), ("b",))

    def test_no_wanted_sums_and_sums_that_follow(self):
        self.assertEqual(fewest_shown(PUMP, []), ())
        self.assertEqual(fewest_shown(PUMP, [[], PUMP.rules[0], [("pump", 0, 1), ("pump", 0, -1)]]), ())
        self.assertEqual(fewest_shown(Book.zero(["a", "b"]), [[("a", 0, 1)], [("b", 5, 2)]]), ())

    def test_errors(self):
        wanted = [[("pump", 0, 1)], [("y", 0, 0), ("z", 1, 1), ("x", 0, 1), ("x", 2, 1)], [("a", 0, 1)]]
        error = raised(fewest_shown, PUMP, wanted)
        self.assertIsInstance(error, UnknownRow)
        self.assertEqual(error.name, "x")
        self.assertEqual(fewest_shown(PUMP, [[("y", 0, 0)]]), ())

    def test_books_with_more_rows_than_are_passed(self):
        wide = blocked_book(PUMP, 4)
        self.assertEqual(fewest_shown(wide, [[("pumpx1", 0, 1)]]), ("pumpx1",))
        self.assertEqual(fewest_shown(wide, [[("pumpx3", 0, 1)], [("levelx0", 0, 1)]]), ("levelx0", "levelx3"))

    def test_books_of_chance(self):
        lengths = set()
        for source in sources(150):
            rows = random_rows(source, 4)
            book = random_book(source, rows)
            wanted = [random_sum(source, rows) for _ in range(source.randint(1, 3))]
            found = fewest_shown(book, wanted)
            self.assertEqual(found, naive_fewest(book, wanted))
            self.assertTrue(all_tuples(found))
            self.assertEqual(fewest_shown(equal_book(source, book), wanted[::-1]), found)
            lengths.add(len(found))
        self.assertEqual(lengths, {0, 1, 2, 3, 4})


if __name__ == "__main__":
    unittest.main()
