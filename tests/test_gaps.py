import unittest

from helpers import equal_book, kept_family, naive_joint, random_book, random_rows, raised, same, sources
from joinpast.books import Book
from joinpast.errors import Broken, RowsDiffer
from joinpast.families import Family
from joinpast.gaps import hard_pair, is_steerable, least_gap, universal_gap
from joinpast.joins import join
from joinpast.keeping import keeps

ROWS = ["level", "pump"]
PUMP = Book(ROWS, [[("level", 1, 1), ("level", 0, -1), ("pump", 0, -1)]])
SAME = [(0, -1), (1, 1)]
FULL = Family(ROWS, 0, [[1], [0]], before=SAME, after=SAME)
EMPTY = Family.zero(ROWS)
STEADY = Book(["x"], [[("x", 0, 1), ("x", 1, -1)]])


class GapsTest(unittest.TestCase):
    def assert_hard(self, book, gap):
        pair = hard_pair(book, gap)
        if pair is None:
            return False
        past, future = pair
        self.assertTrue(keeps(book, past) and keeps(book, future))
        self.assertIsNone(naive_joint(book.given, past, future, 0, gap))
        return True

    def test_interface_example(self):
        found = [least_gap(PUMP, EMPTY, FULL), least_gap(PUMP, FULL, FULL), universal_gap(PUMP)]
        self.assertEqual(found, [1, 0, 1])

    def test_steerable_books(self):
        book = Book(["a", "b"], [[("a", 0, 1), ("a", 4, 1), ("b", 0, 1), ("b", 1, 1)]])
        self.assertIs(is_steerable(book), True)
        self.assertEqual(universal_gap(book), 4)
        for known, gap in ((PUMP, 1), (book, 4), (Book.free(["a", "b"]), 0), (Book.zero(["a", "b"]), 0)):
            self.assertIs(is_steerable(known), True)
            self.assertEqual(universal_gap(known), gap)
            self.assertIsNone(hard_pair(known, gap))
            self.assertIsNone(hard_pair(known, 30))
            self.assertEqual([self.assert_hard(known, less) for less in range(gap)], [True] * gap)

    def test_books_that_are_not_steerable(self):
        common = Book(["a", "b"], [[("a", 1, 1), ("a", 0, -1), ("b", 1, 2), ("b", 0, -2)]])
        for book in (STEADY, common, Book(["x"], [[("x", 0, 1), ("x", 5, 2)]])):
            self.assertIs(is_steerable(book), False)
            self.assertIsNone(universal_gap(book))
            for gap in (0, 1, 6, 30):
                self.assertTrue(self.assert_hard(book, gap))

    def test_a_factor_that_only_moves_hides_nothing(self):
        self.assertIs(is_steerable(Book(["a", "b"], [[("a", 3, 2), ("b", 3, 5)]])), True)
        self.assertEqual(universal_gap(Book(["a", "b"], [[("a", 3, 2), ("b", 3, 5)]])), 0)

    def test_families_that_agree_far_away_only(self):
        one = Family(["x"], 0, [[1, 2, 3, 1]], before=SAME, after=SAME)
        free = Book.free(["x"])
        self.assertEqual(least_gap(free, one, one + Family.pulse(["x"], "x", place=2)), 0)
        steady = Family(["x"], 0, [[4]], before=SAME, after=SAME)
        self.assertEqual(least_gap(STEADY, steady, steady, place=30), 0)
        self.assertIsNone(least_gap(STEADY, steady, steady + steady, place=-30))
        self.assertEqual(least_gap(PUMP, FULL, FULL + FULL, place=-30), 1)

    def test_less_than_the_universal_gap_may_do(self):
        book = Book(["a", "b"], [[("a", 0, 1), ("a", 4, 1), ("b", 0, 1), ("b", 1, 1)]])
        source = next(iter(sources(1)))
        one = kept_family(source, book)
        self.assertEqual(least_gap(book, one, one), 0)
        pulse = Family(["a", "b"], 0, [[0, 0, 0, 1, 1], [-1, 0, 0, 0, -1]])
        self.assertTrue(keeps(book, pulse))
        self.assertEqual([least_gap(book, one, one + pulse, place=place) for place in range(-1, 6)], [0, 0, 4, 3, 2, 1, 0])

    def test_errors_of_joins(self):
        other, broken = Family.zero(["x"]), Family.pulse(ROWS, "pump", place=2)
        for past, future in ((other, broken), (broken, other)):
            error = raised(least_gap, PUMP, past, future)
            self.assertIsInstance(error, RowsDiffer)
            self.assertEqual((error.one, error.two), (("level", "pump"), ("x",)))
        for past, future in ((FULL, broken), (broken, broken.moved(4))):
            error = raised(least_gap, PUMP, past, future, place=9)
            self.assertIsInstance(error, Broken)
            self.assertEqual((error.place, error.index), (2, 0))

    def test_books_of_chance(self):
        counts = {True: 0, False: 0}
        for source in sources(120):
            rows = random_rows(source, 3)
            book = random_book(source, rows)
            other = equal_book(source, book)
            gap = universal_gap(book)
            self.assertIs(is_steerable(book), gap is not None)
            counts[gap is not None] += 1
            if gap is not None:
                self.assertIsNone(hard_pair(book, gap))
                self.assertTrue(gap == 0 or self.assert_hard(book, gap - 1))
            else:
                self.assertTrue(self.assert_hard(book, 3))
            past, future = kept_family(source, book), kept_family(source, book)
            place = source.randint(-3, 3)
            least = least_gap(book, past, future, place=place)
            self.assertEqual(least, least_gap(other, past, future, place=place))
            self.assertTrue(gap is None or least <= gap)
            for tried in (0, 1, 3, 5):
                joint = naive_joint(book.given, past, future, place, tried)
                self.assertIs(joint is not None, least is not None and least <= tried)
            if least:
                self.assertIsNone(join(book, past, future, place=place, gap=least - 1).family)
                self.assertIsNotNone(join(book, past, future, place=place, gap=least).family)
            self.assertTrue(same(hard_pair(book, 2), hard_pair(other, 2)))
        self.assertGreater(min(counts.values()), 20)


if __name__ == "__main__":
    unittest.main()
