import unittest
from math import gcd

from helpers import (
    all_tuples, equal_book, naively_follows, number, random_book, random_rows, raised, same, sources, told_count,
)
from joinpast.books import Book
from joinpast.errors import SpotTwice, UnknownRow
from joinpast.keeping import keeps
from joinpast.spots import fixing, free_spots, unfixed

PUMP = Book(["level", "pump"], [[("level", 1, 1), ("level", 0, -1), ("pump", 0, -1)]])


class SpotsTest(unittest.TestCase):
    def assert_answers(self, book, known, wanted):
        formula = fixing(book, known, wanted)
        family = unfixed(book, known, wanted)
        self.assertEqual(formula is None, family is not None)
        if family is None:
            divisor, terms = formula
            self.assertTrue(all_tuples(formula))
            self.assertGreaterEqual(divisor, 1)
            self.assertEqual(gcd(divisor, *[c for _, _, c in terms]), 1)
            self.assertTrue({term[:2] for term in terms} <= {tuple(spot) for spot in known})
            whole = list(terms) + [(wanted[0], wanted[1], -divisor)]
            self.assertTrue(naively_follows(book.given, whole, margin=30), (book.given, known, wanted))
        else:
            self.assertTrue(keeps(book, family))
            self.assertNotEqual(number(family(*wanted)), 0)
            self.assertEqual([spot for spot in known if number(family(*spot)) != 0], [])
        return formula

    def test_interface_example(self):
        found = fixing(PUMP, [("level", 0), ("pump", 0)], ("level", 1))
        self.assertEqual(found, (1, (("level", 0, 1), ("pump", 0, 1))))
        spots = [("level", 0), ("level", 2), ("pump", 0), ("pump", 1)]
        self.assertEqual(free_spots(PUMP, spots), (("level", 0), ("level", 2), ("pump", 0)))

    def test_known_books(self):
        self.assertEqual(fixing(Book.zero(["a"]), [], ["a", -12]), (1, ()))
        self.assertIsNone(fixing(Book.free(["a"]), [["a", 3]], ["a", 4]))
        self.assertIsNone(fixing(PUMP, [], ("level", 1)))
        for known, wanted in (
            ([("level", -12), ("level", 12)], ("pump", 0)), ([("level", 0), ("level", 1)], ("pump", 0)),
            ([["level", 12], ["pump", 10], ["pump", 11]], ["level", 10]), ([], ("pump", 12)),
            ([("level", 3), ("level", 3), ("pump", 3)], ("level", 4)),
        ):
            self.assert_answers(PUMP, known, wanted)
        halves = Book(["a", "b"], [[("a", 0, 2), ("b", 1, -3)], [("b", 0, 5), ("b", 2, 7)]])
        self.assertEqual(fixing(halves, [("a", 0)], ("b", 1)), (3, (("a", 0, 2),)))
        self.assertEqual(self.assert_answers(halves, [("a", 0)], ("b", 3)), (21, (("a", 0, -10),)))
        self.assertEqual(self.assert_answers(halves, [("a", 0), ("b", 4)], ("a", 2)), (7, (("a", 0, -5),)))

    def test_what_fixes_only_together(self):
        book = Book(["a", "b", "c"], [[("a", 0, 1), ("b", 0, 1), ("c", 0, 1)]])
        spots = [("a", 0), ("b", 0), ("c", 0)]
        self.assertEqual(fixing(book, spots[:2], spots[2]), (1, (("a", 0, -1), ("b", 0, -1))))
        self.assertIsNone(fixing(book, spots[:1], spots[2]))
        self.assertEqual(free_spots(book, spots), tuple(spots[:2]))
        self.assertEqual(free_spots(book, spots[::-1]), (spots[2], spots[1]))

    def test_free_spots(self):
        self.assertEqual(free_spots(PUMP, []), ())
        self.assertEqual(free_spots(Book.zero(["a"]), [("a", 0), ("a", 5)]), ())
        twice = [["pump", 1], ["level", 1], ["pump", 1], ["level", 2], ["level", 1], ["level", 2]]
        self.assertEqual(free_spots(PUMP, twice), (("pump", 1), ("level", 1)))
        free = [("a", at) for at in (5, -5, 5, 0, 0)]
        self.assertEqual(free_spots(Book.free(["a"]), free), (("a", 5), ("a", -5), ("a", 0)))

    def test_errors_in_their_order(self):
        for call in (fixing, unfixed):
            error = raised(call, PUMP, [("level", 0), ("z", 0), ("y", 0)], ("x", 0))
            self.assertIsInstance(error, UnknownRow)
            self.assertEqual(error.name, "z")
            error = raised(call, PUMP, [("level", 0)], ("x", 0))
            self.assertIsInstance(error, UnknownRow)
            self.assertEqual(error.name, "x")
            error = raised(call, PUMP, [("pump", 0), ["level", -3]], ("level", -3))
            self.assertIsInstance(error, SpotTwice)
            self.assertEqual((error.row, error.place), ("level", -3))
            self.assertIsInstance(raised(call, PUMP, [("level", 0), ("z", 0)], ("level", 0)), UnknownRow)
        error = raised(free_spots, PUMP, [("pump", 0), ("z", 0), ("y", 0)])
        self.assertIsInstance(error, UnknownRow)
        self.assertEqual(error.name, "z")

    def test_books_of_chance(self):
        for source in sources(150):
            rows = random_rows(source, 3)
            book = random_book(source, rows)
            spots = [(source.choice(rows), source.randint(-3, 3)) for _ in range(source.randint(0, 7))]
            wanted = (source.choice(rows), source.randint(-3, 3))
            kept = free_spots(book, spots)
            other = equal_book(source, book)
            self.assertEqual(free_spots(other, spots), kept)
            expected = []
            for spot in spots:
                told = told_count(book.rules, expected + [spot], 30)
                if spot not in expected and told == told_count(book.rules, expected, 30):
                    expected.append(spot)
            self.assertEqual(kept, tuple(expected))
            if wanted not in spots:
                self.assert_answers(book, spots, wanted)
                self.assertEqual(fixing(other, spots, wanted), fixing(book, spots, wanted))
                self.assertTrue(same(unfixed(other, spots, wanted), unfixed(book, spots, wanted)))

    def test_many_spots_far_apart(self):
        spots = [("level", at) for at in range(-12, 12, 2)] + [("pump", at) for at in range(-12, 12, 2)]
        self.assertEqual(free_spots(PUMP, spots), tuple(spots))
        self.assertIsNotNone(self.assert_answers(PUMP, spots, ("pump", 9)))
        self.assertIsNone(self.assert_answers(PUMP, spots, ("pump", 11)))


if __name__ == "__main__":
    unittest.main()
