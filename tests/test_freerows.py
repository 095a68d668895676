import unittest
from itertools import combinations

from helpers import all_tuples, equal_book, followers, random_book, random_rows, raised, sources
from joinpast.blocks import blocked_book
from joinpast.books import Book
from joinpast.errors import BadName, RowTwice, UnknownRow
from joinpast.freerows import free_sets, is_free
from joinpast.hiding import shown_book

PUMP = Book(["level", "pump"], [[("level", 1, 1), ("level", 0, -1), ("pump", 0, -1)]])


class FreeRowsTest(unittest.TestCase):
    def test_known_books(self):
        self.assertEqual([is_free(PUMP, ["level"]), is_free(PUMP, ("pump",)), is_free(PUMP, ["pump", "level"])],
                         [True, True, False])
        self.assertEqual(free_sets(PUMP), (("level",), ("pump",)))
        self.assertEqual(free_sets(Book.free(["b", "a"])), (("a", "b"),))
        book = Book(["a", "b", "c"], [[("a", 0, 1), ("a", 1, -1)]])
        self.assertEqual(free_sets(book), (("b", "c"),))
        self.assertEqual([is_free(book, [row]) for row in "abc"], [False, True, True])

    def test_no_chosen_rows(self):
        for book in (PUMP, Book.zero(["a"]), Book.free(["a"])):
            self.assertIs(is_free(book, []), True)

    def test_books_without_free_rows(self):
        self.assertEqual(free_sets(Book.zero(["a", "b"])), ((),))
        self.assertEqual(free_sets(Book(["x"], [[("x", 0, 1), ("x", 1, -1)]])), ((),))
        self.assertIs(is_free(Book.zero(["a", "b"]), ["b"]), False)

    def test_errors_in_their_order(self):
        for rows, kind, name in ((["q", "q", "Q"], BadName, "Q"), (["q", "pump", "pump"], RowTwice, "pump"),
                                 (["q", "level", "p"], UnknownRow, "p")):
            error = raised(is_free, PUMP, rows)
            self.assertIsInstance(error, kind)
            self.assertEqual(error.name, name)

    def test_books_with_many_rows(self):
        wide = blocked_book(Book(["a", "b"], [[("a", 0, 1), ("b", 1, 1), ("b", 0, -1)]]), 5)
        found = free_sets(wide)
        self.assertTrue(all(len(rows) == 5 for rows in found))
        self.assertIn(("bx0", "bx1", "bx2", "bx3", "bx4"), found)

    def test_books_of_chance(self):
        counts = set()
        for source in sources(120):
            rows = random_rows(source, 4)
            book = random_book(source, rows)
            found = free_sets(book)
            self.assertTrue(all_tuples(found))
            expected = [
                chosen for chosen in combinations(rows, book.free_count)
                if not chosen or shown_book(book, chosen) == Book.free(chosen)
            ]
            self.assertEqual(found, tuple(expected))
            self.assertEqual(free_sets(equal_book(source, book)), found)
            chosen = source.sample(rows, source.randint(1, len(rows)))
            hidden = [[term for term in rule if term[0] not in chosen] for rule in book.rules]
            rank_of_hidden = followers(hidden, 31, margin=15) - followers(hidden, 30, margin=15)
            self.assertIs(is_free(book, chosen), rank_of_hidden == len(book))
            counts.add(len(found))
        self.assertGreater(len(counts), 3)


if __name__ == "__main__":
    unittest.main()
