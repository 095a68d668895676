import unittest

from helpers import equal_book, random_book, random_rows, raised, rank, same, sources
from joinpast.books import Book
from joinpast.errors import BadName, NotFree, NotTimely, RowTwice, UnknownRow
from joinpast.families import Family
from joinpast.freerows import free_sets
from joinpast.keeping import keeps
from joinpast.timely import delay, foreseeing, is_timely, response

PUMP = Book(["level", "pump"], [[("level", 1, 1), ("level", 0, -1), ("pump", 0, -1)]])
WIDE = Book(["a", "b", "c"], [[("a", 2, 1), ("b", 0, -1), ("c", 1, -3)]])


class TimelyTest(unittest.TestCase):
    def assert_timely(self, book, chosen):
        family = foreseeing(book, chosen)
        self.assertIs(is_timely(book, chosen), family is None)
        if family is not None:
            self.assertTrue(keeps(book, family))
            self.assertEqual(family.extent()[0], 0)
            self.assertTrue(all(family(row, 0) == (0, 1) for row in chosen))
        return family is None

    def test_known_books(self):
        self.assertEqual([self.assert_timely(PUMP, ["level"]), self.assert_timely(PUMP, ["pump"])], [False, True])
        timely = [self.assert_timely(WIDE, chosen) for chosen in (["a", "b"], ["c", "a"], ["b", "c"])]
        self.assertEqual(timely, [False, False, True])
        even = Book(["a", "b"], [[("a", 1, 1), ("a", 0, -1), ("b", 1, 2)]])
        self.assertEqual([self.assert_timely(even, ["a"]), self.assert_timely(even, ["b"])], [True, True])

    def test_all_rows_or_none_free(self):
        self.assertTrue(self.assert_timely(Book.free(["a", "b"]), ["b", "a"]))
        self.assertTrue(self.assert_timely(Book.zero(["a", "b"]), []))
        self.assertTrue(self.assert_timely(Book(["x"], [[("x", 0, 1), ("x", 2, 3)]]), []))

    def test_errors_in_their_order(self):
        calls = [is_timely, foreseeing, lambda book, chosen: response(book, chosen, "z"),
                 lambda book, chosen: delay(book, chosen, "z", "y")]
        for call in calls:
            for chosen, kind, name in ((["q", "q", "Q"], BadName, "Q"), (["q", "pump", "pump"], RowTwice, "pump"),
                                       (["q", "level", "p"], UnknownRow, "p")):
                error = raised(call, PUMP, chosen)
                self.assertIsInstance(error, kind)
                self.assertEqual(error.name, name)
            for chosen in ([], ["pump", "level"]):
                error = raised(call, PUMP, chosen)
                self.assertIsInstance(error, NotFree)
                self.assertEqual(error.rows, tuple(sorted(chosen)))
            self.assertEqual(raised(call, Book(["a", "b"], [[("a", 0, 1)]]), ["a"]).rows, ("a",))
        for call in calls[2:]:
            error = raised(call, WIDE, ("c", "a"))
            self.assertIsInstance(error, NotTimely)
            self.assertEqual(error.rows, ("a", "c"))
            error = raised(call, PUMP, ["pump"])
            self.assertIsInstance(error, UnknownRow)
            self.assertEqual(error.name, "z")
        self.assertEqual(raised(response, PUMP, ["pump"], "level").name, "level")
        self.assertEqual(raised(delay, PUMP, ["pump"], "pump", "y").name, "y")

    def test_books_of_chance(self):
        counts = [0, 0]
        for source in sources(150):
            book = random_book(source, random_rows(source, 4))
            self.assertTrue(any(is_timely(book, chosen) for chosen in free_sets(book)))
            for chosen in free_sets(book):
                timely = self.assert_timely(book, source.sample(chosen, len(chosen)))
                counts[timely] += 1
                self.assertIs(timely, self.naively_timely(book, chosen))
                other = equal_book(source, book)
                self.assertTrue(same(foreseeing(other, chosen[::-1]), foreseeing(book, chosen)))
        self.assertTrue(min(counts) > 40, counts)

    def naively_timely(self, book, chosen, length=12):
        """Tell whether zeros in the past and in the chosen rows at 0 leave only zeros at 0.

        The rules are asked for at all places from which they reach to place 0
        or beyond, up to a place that is far away.
        """
        lines = []
        for rule in book.rules:
            most = max(shift for _, shift, _ in rule)
            for by in range(-most, length):
                terms = [(shift + by, row, c) for row, shift, c in rule if shift + by >= 0]
                lines.append({(at, row): c for at, row, c in terms if at > 0 or row not in chosen})
        wanted = [{(0, row): 1} for row in book.rows if row not in chosen]
        return rank(lines + wanted) == rank(lines)


class ResponseTest(unittest.TestCase):
    def assert_response(self, book, chosen, row):
        family = response(book, chosen, row)
        self.assertTrue(keeps(book, family))
        self.assertEqual(family.only(chosen), Family.pulse(chosen, row))
        self.assertEqual(family.extent()[0], 0)
        for by in book.rows:
            extent = family.only([by]).extent()
            self.assertEqual(delay(book, chosen, row, by), None if extent is None else extent[0])
        return family

    def test_interface_example(self):
        found = [free_sets(PUMP), is_timely(PUMP, ["level"]), delay(PUMP, ["pump"], "pump", "level")]
        self.assertEqual(found, [(("level",), ("pump",)), False, 1])
        found = self.assert_response(PUMP, ["pump"], "pump")
        self.assertEqual(found.window(-1, 4), (((0, 1), (0, 1), (1, 1), (1, 1)), ((0, 1), (1, 1), (0, 1), (0, 1))))

    def test_known_delays(self):
        self.assertEqual([delay(WIDE, ["c", "b"], row, "a") for row in "bc"], [2, 1])
        self.assertEqual([delay(WIDE, ["c", "b"], row, row) for row in "bc"], [0, 0])
        self.assertIsNone(delay(WIDE, ["c", "b"], "b", "c"))
        self.assertEqual(self.assert_response(WIDE, ["b", "c"], "c")("a", 1), (3, 1))

    def test_a_row_that_never_answers(self):
        book = Book(["a", "b", "c"], [[("b", 0, 1), ("a", 0, -2)], [("c", 1, 1), ("c", 0, -1)]])
        self.assertEqual([delay(book, ["a"], "a", row) for row in "abc"], [0, 0, None])
        self.assert_response(book, ["a"], "a")

    def test_all_rows_free(self):
        self.assertEqual(self.assert_response(Book.free(["a", "b"]), ["b", "a"], "b"), Family.pulse(["a", "b"], "b"))

    def test_books_of_chance(self):
        delays = {}
        for source in sources(150):
            book = random_book(source, random_rows(source, 4))
            for chosen in free_sets(book):
                if is_timely(book, chosen) and chosen:
                    row = source.choice(chosen)
                    family = self.assert_response(book, source.sample(chosen, len(chosen)), row)
                    self.assertTrue(same(response(equal_book(source, book), chosen, row), family))
                    for by in book.rows:
                        found = delay(book, chosen, row, by)
                        delays[found] = delays.get(found, 0) + 1
        self.assertTrue({None, 0, 1, 2} <= set(delays), delays)


if __name__ == "__main__":
    unittest.main()
