import unittest

from helpers import all_tuples, equal_book, followers, random_book, random_rows, raised, sources
from joinpast.books import Book
from joinpast.errors import RowsDiffer
from joinpast.partings import parting_window
from joinpast.windows import can_stand, window_rules

STEADY = Book(["x"], [[("x", 0, 1), ("x", 1, -1)]])


class PartingsTest(unittest.TestCase):
    def assert_parted(self, one, two):
        found = parting_window(one, two)
        if one == two:
            self.assertIsNone(found)
            return None
        self.assertTrue(all_tuples(found))
        holder, window = found
        books = (one, two)
        self.assertIn(holder, (0, 1))
        self.assertTrue(can_stand(books[holder], window))
        self.assertFalse(can_stand(books[1 - holder], window))
        for length in range(len(window[0])):
            self.assertEqual(window_rules(one, length), window_rules(two, length))
        return holder, len(window[0])

    def test_known_books(self):
        free, zero = Book.free(["x"]), Book.zero(["x"])
        even = Book(["x"], [[("x", 0, 1), ("x", 2, -1)]])
        self.assertEqual(self.assert_parted(STEADY, free), (1, 2))
        self.assertEqual(self.assert_parted(free, STEADY), (0, 2))
        self.assertEqual(self.assert_parted(zero, STEADY), (1, 1))
        self.assertEqual(self.assert_parted(STEADY, even), (1, 2))
        self.assertEqual(self.assert_parted(even, free), (1, 3))
        self.assertIsNone(parting_window(STEADY, Book(["x"], [[("x", 3, 2), ("x", 2, -2)], []])))
        doubling = Book(["x"], [[("x", 0, 2), ("x", 1, -1)]])
        self.assertEqual(self.assert_parted(STEADY, doubling)[1], 2)

    def test_a_sum_of_long_rules_may_be_short(self):
        one = Book(["a", "b"], [[("a", 0, 1), ("b", 3, 1)], [("b", 0, 1), ("b", 5, -1)]])
        two = Book(["a", "b"], [[("a", 0, 1), ("b", 3, 1)]])
        self.assertEqual(self.assert_parted(one, two), (1, 3))

    def test_rows_differ(self):
        error = raised(parting_window, STEADY, Book.free(["y"]))
        self.assertIsInstance(error, RowsDiffer)
        self.assertEqual((error.one, error.two), (("x",), ("y",)))

    def test_books_of_chance(self):
        for source in sources(100):
            rows = random_rows(source, 3)
            one, two = random_book(source, rows), random_book(source, rows)
            found = self.assert_parted(one, two)
            self.assertIsNone(parting_window(one, equal_book(source, one)))
            again = parting_window(equal_book(source, one), equal_book(source, two))
            self.assertEqual(again, parting_window(one, two))
            if found is not None and found[1] < 7:
                length = found[1]
                both = followers(list(one.given) + list(two.given), length)
                counts = [followers(one.given, length), followers(two.given, length)]
                self.assertGreater(both, min(counts))


if __name__ == "__main__":
    unittest.main()
