import unittest

from helpers import merged, number, random_end, random_family, random_polynomial, random_rows, sources
from joinpast.families import Family
from joinpast.polynomials import divides, normal_polynomial, span
from joinpast.selfgoing import least_polynomial, obeys

SAME = [(0, -1), (1, 1)]
GROWN = [(0, -1), (1, -1), (2, 1)]


class SelfgoingTest(unittest.TestCase):
    def test_obeys(self):
        steady = Family(["x"], 0, [[3]], before=SAME, after=SAME)
        self.assertIs(obeys(steady, SAME), True)
        self.assertIs(obeys(steady, [(7, 2), (4, -2)]), True)
        self.assertIs(obeys(steady, GROWN), False)
        self.assertIs(obeys(steady, []), True)
        self.assertIs(obeys(steady, [(1, 1), (1, -1)]), True)
        self.assertIs(obeys(steady, [(5, 1)]), False)
        self.assertIs(obeys(Family.pulse(["x"], "x"), []), True)
        self.assertIs(obeys(Family.zero(["x"]), [(5, 1)]), True)
        self.assertIs(obeys(Family(["x", "y"], 0, [[3], [1]], before=SAME, after=[(0, 1), (1, 1)]), SAME), False)

    def test_obeying_on_one_side_only(self):
        self.assertIs(obeys(Family(["x"], 0, [[3]], after=SAME), SAME), False)
        self.assertIs(obeys(Family(["x"], 0, [[3]], before=SAME), SAME), False)
        bent = Family(["x"], 0, [[3, 3, 4]], before=SAME, after=SAME)
        self.assertIs(obeys(bent, SAME), False)

    def test_least_polynomial(self):
        cases = [
            (Family.zero(["x"]), ((0, 1),)),
            (Family(["x"], 0, [[0, 0]], before=GROWN, after=SAME), ((0, 1),)),
            (Family.pulse(["x"], "x"), None),
            (Family(["x"], 0, [[1]], after=SAME), None),
            (Family(["x"], 0, [[1]], before=SAME), None),
            (Family(["x"], 0, [[2]], before=SAME, after=SAME), ((0, -1), (1, 1))),
            (Family(["x"], 0, [[2, 2, 2]], before=[(0, 1), (2, -1)], after=[(0, 1), (3, -1)]), ((0, -1), (1, 1))),
            (Family(["x"], 0, [[2, 2, 3]], before=SAME, after=SAME), None),
            (Family(["x"], 0, [[1, 1]], before=GROWN, after=GROWN), ((0, -1), (1, -1), (2, 1))),
            (Family(["x"], 0, [[2, 4]], before=[(0, 2), (1, -1)], after=[(0, -4), (2, 1)]), ((0, -2), (1, 1))),
            (Family(["x"], 0, [[4, 6]], before=[(0, 3), (1, -2)], after=[(0, 3), (1, -2)]), ((0, -3), (1, 2))),
            (Family(["x", "y"], 0, [[1, 1], [1, -1]], before=[(0, -1), (2, 1)], after=[(0, -1), (2, 1)]),
             ((0, -1), (2, 1))),
        ]
        for family, expected in cases:
            self.assertEqual(least_polynomial(family), expected)

    def test_self_going_families_of_chance(self):
        for source in sources(150):
            rows = random_rows(source, 2)
            p = random_end(source, 2)
            entries = [[source.randint(-2, 2) for _ in range(span(p))] for _ in rows]
            family = Family(rows, source.randint(-3, 3), entries, before=p, after=p)
            least = least_polynomial(family)
            self.assertEqual(least, normal_polynomial(least))
            self.assertTrue(obeys(family, p) and obeys(family, least) and divides(least, p))
            if span(least) == 2:
                self.assertEqual(least, normal_polynomial(p))
            if span(least) == 1:
                self.assertFalse(obeys(family, [(0, 1)]))

    def test_families_of_chance(self):
        for source in sources(150):
            rows = random_rows(source, 2)
            family = random_family(source, rows)
            p = random_polynomial(source)
            applied = [
                sum([c * number(family(row, place + shift)) for shift, c in p])
                for row in rows for place in range(-16, 17)
            ]
            self.assertIs(obeys(family, p), not any(applied))
            least = least_polynomial(family)
            if least is None:
                self.assertFalse(merged(p) and obeys(family, p))
            else:
                self.assertTrue(obeys(family, least))
                self.assertIs(obeys(family, p), divides(least, p))


if __name__ == "__main__":
    unittest.main()
