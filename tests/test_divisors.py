import unittest

from helpers import all_tuples, merged, product, random_polynomial, sources
from joinpast.divisors import common, common_parts, least_multiple
from joinpast.polynomials import divides, normal_polynomial, poly_plus, poly_times, span


class DivisorsTest(unittest.TestCase):
    def test_interface_examples(self):
        self.assertEqual(common([(0, -1), (2, 1)], [(0, 1), (1, -2), (2, 1)]), ((0, -1), (1, 1)))
        self.assertEqual(least_multiple([(0, -1), (1, 1)], [(0, 1), (1, 1)]), ((0, -1), (2, 1)))

    def test_zero(self):
        self.assertEqual(common([], [(2, 0)]), ())
        self.assertEqual(common([], [(2, -4), (3, 4)]), ((0, -1), (1, 1)))
        self.assertEqual(common([(2, -4), (3, 4)], []), ((0, -1), (1, 1)))
        self.assertEqual(least_multiple([], [(0, 1)]), ())
        self.assertEqual(least_multiple([(0, 1)], [(1, 1), (1, -1)]), ())
        self.assertEqual(least_multiple([], []), ())
        m, f, h = common_parts([], [])
        self.assertGreaterEqual(m, 1)
        self.assertTrue(all_tuples((m, f, h)))

    def test_constants(self):
        self.assertEqual(common([(0, 6)], [(3, -9)]), ((0, 1),))
        self.assertEqual(common([(0, 6), (1, 6)], [(3, -9)]), ((0, 1),))
        self.assertEqual(least_multiple([(-4, 6)], [(3, -9)]), ((0, 1),))
        self.assertEqual(least_multiple([(5, 2), (6, -2)], [(0, 3)]), ((0, -1), (1, 1)))

    def test_pairs_in_any_order(self):
        p, q = [(3, 1), (1, -1), (2, 5), (2, -5)], [(5, 2), (4, -1), (4, 3), (6, 0)]
        self.assertEqual(common(p, q), ((0, 1), (1, 1)))
        self.assertEqual(common(q, p), ((0, 1), (1, 1)))
        self.assertEqual(least_multiple(p, q), ((0, -1), (2, 1)))
        self.assertEqual(least_multiple(q, p), ((0, -1), (2, 1)))
        m, f, h = common_parts(p, q)
        self.assertEqual(((0, m), (1, m)), poly_plus(product(f, p), product(h, q)))

    def test_a_long_division_stays_exact(self):
        p = [(at, at * at + 1) for at in range(12)]
        q = [(at, 3 * at - 7) for at in range(11)]
        g = [(0, 3), (1, 5), (4, -2)]
        self.assertEqual(common(poly_times(p, g), poly_times(q, g)), normal_polynomial(g))

    def test_properties(self):
        for source in sources(300):
            g = random_polynomial(source, pairs=2)
            p = poly_times(random_polynomial(source), g)
            q = poly_times(random_polynomial(source), g)
            found = common(p, q)
            self.assertEqual(found, normal_polynomial(found))
            if not p and not q:
                self.assertEqual(found, ())
                continue
            self.assertTrue(divides(found, p) and divides(found, q))
            self.assertTrue(divides(g, found) if merged(g) else True)
            m, f, h = common_parts(p, q)
            self.assertGreaterEqual(m, 1)
            self.assertEqual(poly_plus(f, h), poly_plus(h, f))
            self.assertEqual(poly_times([(0, m)], found), poly_plus(product(f, p), product(h, q)))
            least = least_multiple(p, q)
            self.assertEqual(least, normal_polynomial(least))
            self.assertTrue(all_tuples((found, m, f, h, least)))
            if p and q:
                self.assertEqual(least, normal_polynomial(least))
                self.assertTrue(divides(p, least) and divides(q, least))
                self.assertEqual(span(least) + span(found), span(p) + span(q))
            else:
                self.assertEqual(least, ())


if __name__ == "__main__":
    unittest.main()
