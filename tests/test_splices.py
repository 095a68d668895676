import unittest

from helpers import pair, number, raised, random_entry, random_family, random_rows, sources
from joinpast.errors import BadStretch, RowsDiffer
from joinpast.families import Family
from joinpast.splices import spliced

SAME = [(0, -1), (1, 1)]


class SplicesTest(unittest.TestCase):
    def test_a_step(self):
        low = Family(["x"], 0, [[1]], before=SAME, after=SAME)
        high = Family(["x"], 0, [[5]], before=SAME, after=SAME)
        found = spliced(low, high, 3)
        self.assertEqual([found("x", at)[0] for at in range(0, 6)], [1, 1, 1, 5, 5, 5])
        found = spliced(low, high, -90, middle=[[(1, 2), 7]])
        self.assertEqual([found("x", at) for at in range(-92, -86)],
                         [(1, 1), (1, 1), (1, 2), (7, 1), (5, 1), (5, 1)])
        self.assertEqual(spliced(low, high, 0, middle=[[]]), spliced(low, high, 0))

    def test_the_future_stays_at_its_places(self):
        future = Family(["x"], 0, [[10, 11, 12, 13]])
        found = spliced(Family.zero(["x"]), future, 0, middle=[[1, 2]])
        self.assertEqual([found("x", at)[0] for at in range(-1, 5)], [0, 1, 2, 12, 13, 0])

    def test_errors_in_their_order(self):
        one, two = Family.zero(["a", "b"]), Family.zero(["a"])
        error = raised(spliced, one, two, 0, middle=[[1]])
        self.assertIsInstance(error, RowsDiffer)
        self.assertEqual((error.one, error.two), (("a", "b"), ("a",)))
        for middle, count in (([[1]], 1), ([], 0), ([[1], [2], [3]], 3), ([[1], [2, 3]], 2), ([[1, 2], []], 0)):
            error = raised(spliced, one, one, 0, middle=middle)
            self.assertIsInstance(error, BadStretch)
            self.assertEqual(error.count, count)

    def test_against_entries(self):
        for source in sources(150):
            rows = random_rows(source, 2)
            past, future = random_family(source, rows), random_family(source, rows)
            place, length = source.randint(-9, 9), source.choice([None, 0, 1, 3])
            middle = None if length is None else [[random_entry(source) for _ in range(length)] for _ in rows]
            found = spliced(past, future, place, middle=middle)
            self.assertEqual(found.rows, past.rows)
            behind = place + (length or 0)
            for at in range(-16, 17):
                for index, row in enumerate(past.rows):
                    if at < place:
                        expected = past(row, at)
                    elif at < behind:
                        expected = pair(number(middle[index][at - place]))
                    else:
                        expected = future(row, at)
                    self.assertEqual(found(row, at), expected)


if __name__ == "__main__":
    unittest.main()
