"""The least polynomial of tails, also where numbers exceed the great prime."""

import unittest

from helpers import product, random_end, random_entry, sources
from joinpast.divisors import common
from joinpast.families import Family
from joinpast.leasttails import least_tail
from joinpast.modular import PRIME, found_divisor, inverse
from joinpast.polynomials import divides, normal_polynomial, span
from joinpast.selfgoing import obeys

SAME = ((0, -1), (1, 1))
HUGE = 2 ** 2300 + 1


class LeastTailTest(unittest.TestCase):
    def test_known_tails(self):
        ones, zeros = ((1, 1), (1, 1)), ((0, 1), (0, 1))
        self.assertEqual(least_tail([ones], ((0, -1), (2, 1))), SAME)
        self.assertEqual(least_tail([zeros, zeros], ((0, -1), (2, 1))), ((0, 1),))
        self.assertEqual(least_tail([zeros, ones], ((0, -1), (2, 1))), SAME)
        self.assertEqual(least_tail([((1, 1), (-1, 2)), ones], ((0, -1), (2, 1))), ((0, -1), (2, 1)))
        self.assertEqual(least_tail([()], ((0, 1),)), ((0, 1),))

    def test_numbers_beyond_the_prime(self):
        p = normal_polynomial(product([(0, -HUGE), (1, 1)], SAME))
        self.assertEqual(least_tail([((1, 1), (1, 1))], p), SAME)
        self.assertEqual(least_tail([((1, 1), (HUGE, 1))], p), ((0, -HUGE), (1, 1)))
        self.assertEqual(least_tail([((1, 1), (0, 1))], p), p)
        last = normal_polynomial(product([(0, -1), (1, PRIME)], SAME))
        self.assertIsNone(found_divisor(last, [((0, 1),)]))
        self.assertEqual(least_tail([((PRIME, 1), (1, 1))], last), ((0, -1), (1, PRIME)))
        hidden = normal_polynomial(product([(0, -1), (1, 1 + PRIME)], SAME))
        self.assertEqual(least_tail([((1, 1), (2, 1))], hidden), hidden)

    def test_found_divisors(self):
        self.assertEqual(found_divisor(((0, -6), (1, 5), (2, 6)), [((0, -2), (1, 3))]), ((0, -2), (1, 3)))
        self.assertEqual(found_divisor(((0, -6), (1, 5), (2, 6)), [((0, 1), (5, 1))]), ((0, 1),))
        for source in sources(150):
            shared, *parts = [random_end(source, 3) + [(0, 0)] for _ in range(4)]
            p = normal_polynomial(product(shared, parts[0]))
            others = [normal_polynomial(product(shared, part)) for part in parts[1:]]
            others = [tuple((shift + at, 7 * c) for shift, c in other) for at, other in enumerate(others)]
            self.assertEqual(found_divisor(p, others), common(common(p, others[0]), others[1]))

    def test_inverse(self):
        for number in (1, 2, 3, PRIME - 1, 12345678901234567890):
            self.assertEqual(number * inverse(number) % PRIME, 1)

    def test_tails_of_chance(self):
        for source in sources(150):
            parts = [random_end(source, 2) for _ in range(2)]
            rows = ["a", "b"][:source.randint(1, 2)]
            p = normal_polynomial(product(*parts))
            entries = [[random_entry(source) for _ in range(span(p))] for _ in rows]
            if source.randint(0, 1):
                short = normal_polynomial(parts[0])
                entries = Family(rows, 0, [row[:span(short)] for row in entries], after=short).window(0, span(p))
            family = Family(rows, 0, entries, before=p, after=p)
            least = least_tail(family.entries, p)
            self.assertTrue(obeys(family, least) and divides(least, p))
            self.assertEqual(least, normal_polynomial(least))
            for divisor in ([(0, -1), (1, 1)], [(0, 1), (1, 1)], [(0, -2), (1, 1)], *parts):
                found = normal_polynomial(divisor)
                if span(found) and obeys(family, found):
                    self.assertTrue(divides(least, found))


if __name__ == "__main__":
    unittest.main()
