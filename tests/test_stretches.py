import unittest
from fractions import Fraction

from helpers import (
    equal_book, kept_family, number, random_book, random_entry, random_rows, raised, rank, sources,
)
from joinpast.books import Book
from joinpast.errors import BadName, BadStretch, CannotStand, NoRows, RowTwice, TooLong
from joinpast.families import Family
from joinpast.gaps import is_steerable
from joinpast.memory import memory_size
from joinpast.ratios import without_bottoms
from joinpast.stretches import liveliness, read_off, stretch_shows
from joinpast.windows import can_stand, window_break, window_freedom

PUMP = Book(["level", "pump"], [[("level", 1, 1), ("level", 0, -1), ("pump", 0, -1)]])


def null_sums(rows, stretch, longest):
    """Return sums of which all consist that are 0 in the stretch, by elimination."""
    columns = [(row, shift) for shift in range(longest + 1) for row in range(len(rows))]
    lines = [
        [number(stretch[row][place + shift]) for row, shift in columns]
        for place in range(len(stretch[0]) - longest)
    ]
    done = []
    for column in range(len(columns)):
        chosen = [at for at in range(len(done), len(lines)) if lines[at][column]]
        if not chosen:
            continue
        at = len(done)
        lines[at], lines[chosen[0]] = lines[chosen[0]], lines[at]
        lines[at] = [entry / lines[at][column] for entry in lines[at]]
        for other in range(len(lines)):
            if other != at:
                lines[other] = [x - lines[other][column] * y for x, y in zip(lines[other], lines[at])]
        done.append(column)
    found = []
    for free in [column for column in range(len(columns)) if column not in done]:
        values = {free: Fraction(1)}
        for at, column in enumerate(done):
            values[column] = -lines[at][free]
        bottom = 1
        for value in values.values():
            bottom *= value.denominator
        found.append([(rows[columns[at][0]], columns[at][1], int(values[at] * bottom)) for at in values])
    return found


def contained_rank(stretch, length):
    whole = without_bottoms([[number(entry).as_integer_ratio() for entry in sequence] for sequence in stretch])
    return rank([
        {(row, at): whole[row][place + at] for row in range(len(whole)) for at in range(length)}
        for place in range(len(whole[0]) - length + 1)
    ])


class ReadOffTest(unittest.TestCase):
    def test_interface_example(self):
        found = read_off(["x"], [[1, 2, 4, 8]], longest=1)
        self.assertEqual(found.rules, ((("x", 0, 2), ("x", 1, -1)),))
        self.assertEqual(found.given, found.rules)

    def test_longest_0_and_as_long_as_possible(self):
        self.assertEqual(read_off(["b", "a"], [[1, 2], [2, 4]], longest=0).rules, ((("a", 0, 2), ("b", 0, -1)),))
        self.assertEqual(read_off(["x"], [[1, 0]], longest=0), Book.free(["x"]))
        self.assertEqual(read_off(["x"], [[0]], longest=0), Book.zero(["x"]))
        self.assertEqual(read_off(["x"], [[1, (1, 2), 3]], longest=2), Book.zero(["x"]))
        self.assertEqual(read_off(["x"], [[0, 0, 1]], longest=2), Book.zero(["x"]))
        self.assertEqual(read_off(["x"], [[1, 1, 1]], longest=2).rules, ((("x", 0, 1), ("x", 1, -1)),))

    def test_only_the_places_named_are_looked_at(self):
        self.assertEqual(read_off(["x"], [[1, 1, 5]], longest=1), Book.free(["x"]))
        self.assertEqual(read_off(["x"], [[1, 1, 5]], longest=2), Book.zero(["x"]))
        self.assertEqual(read_off(["x"], [[0, 0, 1]], longest=1), Book.zero(["x"]))

    def test_the_rows_may_be_passed_in_any_order(self):
        one = read_off(["a", "b"], [[1, 2, 3], [2, 3, 4]], longest=1)
        self.assertEqual(read_off(("b", "a"), ((1, 2, 3), ((2, 1), 3, [8, 2])), longest=1), one)
        self.assertIn([("a", 1, 1), ("b", 0, -1)], one)

    def test_errors_in_their_order(self):
        stretch = [[1, 2], [1], []]
        self.assertIsInstance(raised(read_off, [], stretch, longest=5), NoRows)
        for rows, kind, name in ((["a", "a", "A"], BadName, "A"), (["b", "a", "a", "b"], RowTwice, "a")):
            error = raised(read_off, rows, stretch, longest=5)
            self.assertIsInstance(error, kind)
            self.assertEqual(error.name, name)
        for rows, count in ((["a", "b"], 3), (["a", "b", "c"], 1)):
            error = raised(read_off, rows, stretch, longest=5)
            self.assertIsInstance(error, BadStretch)
            self.assertEqual(error.count, count)
        for longest, count in ((2, 2), (3, 2), (0, 0), (12, 2)):
            error = raised(read_off, ["a"], [[1] * count], longest=longest)
            self.assertIsInstance(error, TooLong)
            self.assertEqual(error.longest, longest)

    def test_stretches_of_chance(self):
        for source in sources(120):
            rows = random_rows(source, 3)
            length = source.randint(1, 9)
            longest = source.randint(0, min(3, length - 1))
            stretch = [[random_entry(source) for _ in range(length)] for _ in rows]
            if source.randint(0, 1):
                stretch = kept_family(source, random_book(source, rows)).window(source.randint(-3, 3), length)
            self.assertEqual(read_off(rows, stretch, longest=longest), Book(rows, null_sums(rows, stretch, longest)))


class StretchShowsTest(unittest.TestCase):
    def test_known_stretches(self):
        still = [[1, 1, 1], [0, 0, 0]]
        self.assertEqual([stretch_shows(PUMP, still, length) for length in (0, 1, 2)], [True, False, False])
        busy = [[0, 1, 1, 3, 3, 3], [1, 0, 2, 0, 0, 0]]
        self.assertEqual([stretch_shows(PUMP, busy, length) for length in range(5)], [True, True, True, True, False])

    def test_a_stretch_shorter_than_the_length(self):
        self.assertIs(stretch_shows(PUMP, [[1], [2]], 2), False)
        self.assertIs(stretch_shows(Book.zero(["a"]), [[0]], 5), True)
        self.assertIs(stretch_shows(Book.zero(["a"]), [[]], 24), True)
        self.assertIs(stretch_shows(Book.free(["a"]), [[]], 0), True)
        self.assertIs(stretch_shows(Book.free(["a"]), [[]], 1), False)
        self.assertIs(stretch_shows(Book(["a"], [[("a", 0, 1), ("a", 1, -1)]]), [[1]], 2), False)

    def test_a_long_stretch(self):
        family = Family(["x"], 0, [[0, 1]], before=[(0, 1), (1, 1), (2, -1)], after=[(0, 1), (1, 1), (2, -1)])
        book = Book(["x"], [[("x", 0, 1), ("x", 1, 1), ("x", 2, -1)]])
        self.assertIs(stretch_shows(book, family.window(0, 60), 24), True)
        wrong = [list(family.window(0, 60)[0])]
        wrong[0][59] = 0
        error = raised(stretch_shows, book, wrong, 2)
        self.assertIsInstance(error, CannotStand)
        self.assertEqual(error.terms, window_break(book, wrong))

    def test_errors_in_their_order(self):
        for stretch, count in (([[1, 2]], 1), ([[1, 2], [3], []], 3), ([[1, 2], [3]], 1)):
            error = raised(stretch_shows, PUMP, stretch, 2)
            self.assertIsInstance(error, BadStretch)
            self.assertEqual(error.count, count)
        error = raised(stretch_shows, PUMP, [[0, 1, 1], [1, 1, 0]], 2)
        self.assertIsInstance(error, CannotStand)
        self.assertEqual(error.terms, (("level", 0, 1), ("level", 2, -1), ("pump", 0, 1), ("pump", 1, 1)))

    def test_stretches_of_chance(self):
        count = 0
        for source in sources(100):
            book = random_book(source, random_rows(source, 3))
            stretch = kept_family(source, book).window(source.randint(-3, 0), source.randint(0, 12))
            for length in range(5):
                expected = contained_rank(stretch, length) == window_freedom(book, length)
                self.assertIs(stretch_shows(book, stretch, length), expected)
                self.assertIs(stretch_shows(equal_book(source, book), stretch, length), expected)
                count += expected
        self.assertTrue(150 < count < 400, count)


class LivelinessTest(unittest.TestCase):
    def test_known_stretches(self):
        self.assertEqual(liveliness([[0, 0, 1, 0, 0]]), 3)
        self.assertEqual(liveliness([[0, 0, 0]]), 0)
        self.assertEqual(liveliness([[]]), 0)
        self.assertEqual(liveliness([[(1, 2)]]), 1)
        self.assertEqual(liveliness([[1, 1, 1, 1]]), 1)
        self.assertEqual(liveliness([[1, 0], [0, 1]]), 1)
        self.assertEqual(liveliness([[1, 2], [2, 4]]), 0)
        self.assertEqual(liveliness([[0, 0, 1, 0, 0, 0, 0, 0], [0, 0, 0, 0, 0, 1, 0, 0]]), 3)

    def test_errors(self):
        for stretch, count in (([[1, 2], [3], []], 1), ([[], [1, 2, 3], []], 3)):
            error = raised(liveliness, stretch)
            self.assertIsInstance(error, BadStretch)
            self.assertEqual(error.count, count)

    def test_stretches_of_chance(self):
        depths = set()
        for source in sources(100):
            rows, length = source.randint(1, 3), source.randint(0, 14)
            stretch = [[random_entry(source) for _ in range(length)] for _ in range(rows)]
            found = liveliness(stretch)
            full = [depth for depth in range(16) if contained_rank(stretch, depth) == rows * depth]
            self.assertEqual(full, list(range(found + 1)))
            depths.add(found)
        self.assertGreater(len(depths), 5)

    def test_what_a_lively_stretch_shows(self):
        count = 0
        for source in sources(150):
            rows = random_rows(source, 3)
            book = random_book(source, rows, shift=1)
            if not is_steerable(book) or book.free_count == 0:
                continue
            stretch = dict(zip(rows, kept_family(source, book).window(-9, 24)))
            self.assertTrue(can_stand(book, list(stretch.values())))
            depth = liveliness([stretch[row] for row in source.sample(rows, book.free_count)])
            for length in range(max(0, depth - memory_size(book) + 1)):
                self.assertIs(stretch_shows(book, list(stretch.values()), length), True)
                count += 1
        self.assertGreater(count, 50)


if __name__ == "__main__":
    unittest.main()
