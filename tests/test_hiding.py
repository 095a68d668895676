import unittest

from helpers import (
    equal_book, followers, kept_family, random_book, random_entry, random_rows, raised, same, sources, told_count,
)
from joinpast.books import Book
from joinpast.errors import BadName, Broken, NoRows, RowTwice, UnknownRow
from joinpast.families import Family
from joinpast.hiding import filled, shown_book
from joinpast.keeping import first_break, keeps

SAME = [(0, -1), (1, 1)]
PUMP = Book(["level", "pump"], [[("level", 1, 1), ("level", 0, -1), ("pump", 0, -1)]])
CHAIN = Book(["a", "b", "c"], [[("a", 0, 1), ("c", 0, -1)], [("b", 0, 1), ("c", 1, -1)]])


class ShownBookTest(unittest.TestCase):
    def test_interface_example(self):
        self.assertEqual(shown_book(CHAIN, ["a", "b"]).rules, ((("a", 1, 1), ("b", 0, -1)),))

    def test_known_books(self):
        self.assertEqual(shown_book(PUMP, ["pump"]), Book.free(["pump"]))
        self.assertEqual(shown_book(PUMP, ["pump", "level"]), PUMP)
        self.assertEqual(shown_book(CHAIN, ("c",)), Book.free(["c"]))
        self.assertEqual(shown_book(Book.zero(["a", "b"]), ["b"]), Book.zero(["b"]))
        self.assertEqual(shown_book(Book.free(["a", "b"]), ["b"]), Book.free(["b"]))
        driven = Book(["x", "y"], [[("x", 1, 1), ("x", 0, -2), ("y", 0, 1)], [("y", 1, 1), ("y", 0, 1)]])
        self.assertEqual(shown_book(driven, ["x"]).rules, ((("x", 0, 2), ("x", 1, 1), ("x", 2, -1)),))
        self.assertEqual(shown_book(driven, ["y"]).rules, ((("y", 0, 1), ("y", 1, 1)),))

    def test_its_given_rules_are_the_least_form(self):
        for rows in (["a"], ["b", "c"], ["a", "b", "c"]):
            found = shown_book(Book(["a", "b", "c"], [CHAIN.rules[1], [], CHAIN.rules[0]]), rows)
            self.assertEqual((found.given, found.rows), (found.rules, tuple(rows)))

    def test_errors_in_their_order(self):
        for rows, kind, name in (([], NoRows, None), (["z", "Z", "z"], BadName, "Z"), (["z", "a", "z"], RowTwice, "z"),
                                 (["z", "a", "y"], UnknownRow, "y")):
            error = raised(shown_book, CHAIN, rows)
            self.assertIsInstance(error, kind)
            self.assertEqual(getattr(error, "name", None), name)

    def test_books_of_chance(self):
        for source in sources(150):
            rows = random_rows(source, 4)
            book = random_book(source, rows)
            named = source.sample(rows, source.randint(1, len(rows)))
            found = shown_book(book, named)
            self.assertEqual(found, shown_book(equal_book(source, book), named[::-1]))
            self.assertTrue(keeps(found, kept_family(source, book).only(named)))
            for length in (1, 3, 5):
                spots = [(row, at) for row in named for at in range(length)]
                self.assertEqual(followers(found.rules, length), told_count(book.given, spots, 25))


class FilledTest(unittest.TestCase):
    def assert_filled(self, book, family):
        found = filled(book, family)
        self.assertEqual(found.rows, book.rows)
        self.assertTrue(keeps(book, found))
        self.assertEqual(found.only(family.rows), family)
        return found

    def test_known_books(self):
        pumping = Family(["pump"], 3, [[1, 2, (1, 3)]], before=SAME, after=[(0, -2), (1, 1)])
        self.assert_filled(PUMP, pumping)
        levels = Family(["level"], -30, [[1, 2, (1, 3)]], before=SAME)
        found = self.assert_filled(PUMP, levels)
        self.assertEqual(found.window(-30, 3)[1], ((1, 1), (-5, 3), (-1, 3)))
        whole = found + found
        self.assertEqual(self.assert_filled(PUMP, whole), whole)
        self.assert_filled(Book.free(["a", "b", "c"]), Family.pulse(["b"], "b"))
        self.assertEqual(self.assert_filled(Book.zero(["a", "b"]), Family.zero(["b"])), Family.zero(["a", "b"]))
        self.assert_filled(CHAIN, Family(["a", "b"], -1, [[0, 1, 2, 4], [1, 2, 4, 0]]))

    def test_a_push_in_time_with_the_hidden_row(self):
        book = Book(["x", "y"], [[("x", 1, 1), ("x", 0, -1), ("y", 0, -1)], [("y", 1, 1), ("y", 0, -1)]])
        found = self.assert_filled(book, Family(["y"], 0, [[3]], before=SAME, after=SAME))
        self.assertEqual(found("x", 50)[0] - found("x", 40)[0], 30)

    def test_errors_in_their_order(self):
        error = raised(filled, CHAIN, Family.pulse(["z", "a", "y"], "a"))
        self.assertIsInstance(error, UnknownRow)
        self.assertEqual(error.name, "y")
        error = raised(filled, CHAIN, Family.pulse(["a", "b"], "a", place=-3))
        self.assertIsInstance(error, Broken)
        self.assertEqual((error.place, error.index), (-4, 0))
        late = Family(["a", "b"], 2, [[1, 2, 4], [2, 4, 0]])
        self.assertEqual(first_break(shown_book(CHAIN, ["a", "b"]), late), (1, 0))
        self.assertEqual(raised(filled, CHAIN, late).place, 1)

    def test_books_of_chance(self):
        for source in sources(120):
            rows = random_rows(source, 4)
            book = random_book(source, rows)
            named = source.sample(rows, source.randint(1, len(rows)))
            family = kept_family(source, shown_book(book, named))
            found = self.assert_filled(book, family)
            self.assertTrue(same(found, filled(equal_book(source, book), family)))
            self.assert_filled(book, kept_family(source, book).only(named).scaled(random_entry(source)))


if __name__ == "__main__":
    unittest.main()
