import unittest

from helpers import (
    all_tuples, equal_book, kept_family, number, pair, random_book, random_entry, random_rows, raised, same, sources,
)
from joinpast.books import Book
from joinpast.courses import value
from joinpast.errors import BadParts
from joinpast.keeping import keeps
from joinpast.memory import family_with_memory, memory, memory_size
from joinpast.shortest import reaches
from joinpast.splices import spliced

PUMP = Book(["level", "pump"], [[("level", 1, 1), ("level", 0, -1), ("pump", 0, -1)]])


def remembered(book, family, place):
    return tuple(value(family, terms, place) for terms in memory(book))


class MemoryTest(unittest.TestCase):
    def test_known_books(self):
        self.assertEqual(memory_size(PUMP), 1)
        (terms,) = memory(PUMP)
        self.assertTrue(terms in [((("level", -1, c), ("pump", -1, c))) for c in (1, -1)], terms)
        two = Book(["x"], [[("x", 0, 1), ("x", 1, 1), ("x", 2, -1)]])
        self.assertEqual((memory_size(two), len(memory(two))), (2, 2))

    def test_books_whose_memory_is_empty(self):
        for book in (Book.free(["a", "b"]), Book.zero(["a"]), Book(["a", "b"], [[("a", 0, 1), ("b", 0, 2)]])):
            self.assertEqual((memory(book), memory_size(book)), ((), 0))
            family = family_with_memory(book, [])
            self.assertTrue(keeps(book, family))

    def test_the_sums_have_negative_shifts_only(self):
        for source in sources(60):
            book = random_book(source, random_rows(source, 3))
            found = memory(book)
            self.assertTrue(all_tuples(found))
            self.assertEqual(len(found), memory_size(book))
            self.assertEqual(len(found), sum(reaches(book)))
            for terms in found:
                self.assertTrue(terms and all(shift < 0 for _, shift, _ in terms))
                self.assertEqual(terms, tuple(sorted(terms)))
            self.assertEqual(memory(equal_book(source, book)), found)

    def test_families_can_be_exchanged_exactly_with_the_same_memory(self):
        counts = [0, 0]
        for source in sources(120):
            book = random_book(source, random_rows(source, 3))
            one, two = kept_family(source, book), kept_family(source, book)
            place = source.randint(-3, 3)
            if source.randint(0, 1):
                two = two - family_with_memory(
                    book, remembered(book, (two - one).moved(-place), 0)
                ).moved(place)
            alike = remembered(book, one, place) == remembered(book, two, place)
            self.assertIs(keeps(book, spliced(one, two, place)), alike)
            counts[alike] += 1
        self.assertTrue(min(counts) > 15, counts)

    def test_every_memory_occurs(self):
        for source in sources(100):
            book = random_book(source, random_rows(source, 4))
            values = [random_entry(source) for _ in range(memory_size(book))]
            family = family_with_memory(book, values)
            self.assertTrue(keeps(book, family))
            self.assertEqual(remembered(book, family, 0), tuple(pair(number(each)) for each in values))
            self.assertTrue(same(family_with_memory(equal_book(source, book), tuple(values)), family))

    def test_errors(self):
        for values in ([], [1, 2], [0] * 7):
            error = raised(family_with_memory, PUMP, values)
            self.assertIsInstance(error, BadParts)
            self.assertEqual(error.count, len(values))
        self.assertEqual(raised(family_with_memory, Book.zero(["a"]), [1]).count, 1)


if __name__ == "__main__":
    unittest.main()
