import unittest

from helpers import number, pair, raised, random_entry, random_rows, random_rules, sources
from joinpast.books import Book
from joinpast.completing import completed
from joinpast.errors import BadStretch, CannotStand
from joinpast.families import Family
from joinpast.keeping import keeps
from joinpast.windows import can_stand, window_break, window_rules

PUMP = Book(["level", "pump"], [[("level", 1, 1), ("level", 0, -1), ("pump", 0, -1)]])


class CompletingTest(unittest.TestCase):
    def assert_completed(self, book, window, place):
        family = completed(book, window, place=place)
        self.assertTrue(keeps(book, family))
        expected = tuple(tuple(pair(number(entry)) for entry in sequence) for sequence in window)
        self.assertEqual(family.window(place, len(window[0])), expected)
        return family

    def test_known_books(self):
        self.assert_completed(PUMP, [[0, 1, 3], [1, 2, (7, 2)]], -30)
        self.assert_completed(PUMP, [[5], [7]], 30)
        self.assert_completed(PUMP, [[], []], 0)
        self.assert_completed(Book.zero(["a"]), [[0, 0]], 4)
        self.assert_completed(Book.free(["a", "b"]), [[1, 2], [3, 4]], 4)
        family = completed(PUMP, [[4], [9]])
        self.assertEqual(family.window(0, 1), (((4, 1),), ((9, 1),)))

    def test_windows_shorter_than_the_rules(self):
        book = Book(["x"], [[("x", 0, 1), ("x", 3, -2)]])
        for window in ([[1, 2, 3]], [[1, 2]], [[5]], [[]]):
            self.assert_completed(book, window, 2)
        book = Book(["x", "y"], [[("x", 0, 1), ("y", 4, 3)], [("y", 0, 1), ("y", 2, -1), ("x", 1, 2)]])
        for window in ([[1], [2]], [[1, 2, 3], [4, 5, 6]]):
            if can_stand(book, window):
                self.assert_completed(book, window, 0)

    def test_growing_rows(self):
        book = Book(["x"], [[("x", 0, -1), ("x", 1, -1), ("x", 2, 1)]])
        family = self.assert_completed(book, [[1, 1]], 0)
        self.assertEqual([family("x", at)[0] for at in range(-4, 6)], [2, -1, 1, 0, 1, 1, 2, 3, 5, 8])

    def test_errors_in_their_order(self):
        for window, count in (([[1]], 1), ([[1], [2, 3]], 2), ([], 0)):
            error = raised(completed, PUMP, window)
            self.assertIsInstance(error, BadStretch)
            self.assertEqual(error.count, count)
        window = [[0, 1, 5], [1, 3, 0]]
        error = raised(completed, PUMP, window, place=3)
        self.assertIsInstance(error, CannotStand)
        self.assertEqual(error.terms, window_break(PUMP, window))
        self.assertIn(error.terms, window_rules(PUMP, 3))

    def test_windows_of_chance(self):
        stood = 0
        for source in sources(400):
            rows = random_rows(source, 3)
            book = Book(rows, random_rules(source, rows, most=2))
            length = source.randint(0, 4)
            window = [[random_entry(source) for _ in range(length)] for _ in rows]
            place = source.randint(-5, 5)
            if can_stand(book, window):
                stood += length > 0
                family = self.assert_completed(book, window, place)
                again = family.window(place - 2, length + 4)
                self.assertTrue(can_stand(book, again))
                self.assert_completed(book, again, place - 2)
            else:
                self.assertIsInstance(raised(completed, book, window), CannotStand)
        self.assertGreater(stood, 100)

    def test_equal_books_give_the_same_family(self):
        for source in sources(60):
            rows = random_rows(source, 2)
            rules = random_rules(source, rows, most=2)
            more = [[(row, shift - 2, -3 * c) for row, shift, c in rule] for rule in rules[::-1]] + rules
            window = [[1] for _ in rows]
            one, two = Book(rows, rules), Book(rows, more)
            if can_stand(one, window):
                self.assertEqual(completed(one, window), completed(two, window))
        self.assertIsInstance(completed(PUMP, [[1], [1]]), Family)


if __name__ == "__main__":
    unittest.main()
