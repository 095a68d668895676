import unittest
from math import gcd

from helpers import all_tuples, merged, product, random_polynomial, sources
from joinpast.errors import ZeroPolynomial
from joinpast.polynomials import (
    divides, normal_polynomial, poly_divided, poly_plus, poly_times, polynomial, span,
)


def plain(p):
    return tuple(sorted(merged(p).items()))


def total(*parts):
    return plain([item for part in parts for item in part])


class PolynomialsTest(unittest.TestCase):
    def test_interface_examples(self):
        self.assertEqual(normal_polynomial([(4, 4), (3, -2)]), ((0, -1), (1, 2)))
        self.assertEqual(poly_divided([(0, -1), (2, 1)], [(0, -1), (1, 1)]), (1, ((0, 1), (1, 1)), ()))

    def test_polynomial(self):
        self.assertEqual(polynomial([]), ())
        self.assertEqual(polynomial([(3, 1), (-2, 5), (3, 2), (0, 0)]), ((-2, 5), (3, 3)))
        self.assertEqual(polynomial([[1, 4], [1, -4]]), ())
        self.assertEqual(polynomial(((-20, 10 ** 9), (20, -10 ** 9))), ((-20, 10 ** 9), (20, -10 ** 9)))

    def test_normal_polynomial(self):
        self.assertEqual(normal_polynomial([]), ())
        self.assertEqual(normal_polynomial([(5, 0), (2, 1), (2, -1)]), ())
        self.assertEqual(normal_polynomial([(-3, -6)]), ((0, 1),))
        self.assertEqual(normal_polynomial([(-3, 6), (0, -4)]), ((0, -3), (3, 2)))
        self.assertEqual(normal_polynomial([(0, 1), (1, 1)]), ((0, 1), (1, 1)))
        self.assertEqual(normal_polynomial([(2, 3), (1, -3), (4, -9)]), ((0, 1), (1, -1), (3, 3)))

    def test_span(self):
        self.assertEqual(span([(5, 7)]), 0)
        self.assertEqual(span([(4, 1), (-3, 1), (9, 0)]), 7)
        for zero in ([], [(1, 0)], [(1, 2), (1, -2)]):
            self.assertRaises(ZeroPolynomial, span, zero)

    def test_plus_and_times(self):
        self.assertEqual(poly_plus([(0, 1), (1, 2)], [(1, -2), (-1, 3)]), ((-1, 3), (0, 1)))
        self.assertEqual(poly_plus([], []), ())
        self.assertEqual(poly_times([(0, 1), (1, 1)], [(0, 1), (1, -1)]), ((0, 1), (2, -1)))
        self.assertEqual(poly_times([(-1, 2)], [(-3, 5)]), ((-4, 10),))
        self.assertEqual(poly_times([], [(1, 1)]), ())
        self.assertEqual(poly_times([(1, 1)], [(1, 0)]), ())

    def test_divided_edges(self):
        self.assertEqual(poly_divided([], [(3, 5), (4, 1)]), (1, (), ()))
        self.assertEqual(poly_divided([(2, 6), (0, 3)], [(5, 2)]), (2, ((-5, 3), (-3, 6)), ()))
        self.assertEqual(poly_divided([(2, 6), (0, 4)], [(5, -2)]), (1, ((-5, -2), (-3, -3)), ()))
        self.assertEqual(poly_divided([(0, 1)], [(0, 1), (1, 2)]), (1, (), ((0, 1),)))
        self.assertEqual(poly_divided([(1, 1)], [(0, 1), (1, 2)]), (2, ((0, 1),), ((0, -1),)))
        self.assertEqual(poly_divided([(-1, 1)], [(0, 3), (1, 2)]), (3, ((-1, 1),), ((0, -2),)))
        self.assertEqual(poly_divided([(1, -4)], [(0, 1), (1, -2)]), (1, ((0, 2),), ((0, -2),)))
        self.assertEqual(poly_divided([(-1, 1)], [(0, -3), (1, 2)]), (3, ((-1, -1),), ((0, 2),)))
        for zero in ([], [(2, 0)], [(2, 1), (2, -1)]):
            self.assertRaises(ZeroPolynomial, poly_divided, [(0, 1)], zero)
            self.assertRaises(ZeroPolynomial, poly_divided, [], zero)

    def test_divided_is_the_least_division(self):
        for source in sources(400):
            p = random_polynomial(source, pairs=5, shift=5, coefficient=6)
            q = random_polynomial(source, pairs=3, shift=4, coefficient=6)
            if not merged(q):
                continue
            m, f, r = poly_divided(p, q)
            self.assertTrue(all_tuples((m, f, r)))
            self.assertGreaterEqual(m, 1)
            self.assertEqual((f, r), (plain(f), plain(r)))
            self.assertEqual(plain([(s, m * c) for s, c in p]), total(product(f, q), r))
            self.assertTrue(all(0 <= s < span(q) for s, _ in r))
            shared = m
            for _, c in f:
                shared = gcd(shared, c)
            self.assertEqual(shared, 1)

    def test_divides(self):
        self.assertTrue(divides([], []))
        self.assertFalse(divides([], [(0, 1)]))
        self.assertTrue(divides([(3, 7)], []))
        self.assertTrue(divides([(3, 7)], [(0, 1), (1, 1)]))
        self.assertTrue(divides([(0, 2), (1, 2)], [(5, 1), (6, 1)]))
        self.assertFalse(divides([(0, 1), (1, 1)], [(0, 1), (1, 2)]))
        self.assertFalse(divides([(0, -1), (2, 1)], [(0, -1), (1, 1)]))
        self.assertTrue(divides([(1, 1), (1, -1)], [(2, 0)]))
        for source in sources(100):
            p, q = random_polynomial(source), random_polynomial(source)
            self.assertTrue(divides(q, poly_times(p, q)))
            if merged(q):
                self.assertIs(divides(q, p), not poly_divided(p, q)[2])


if __name__ == "__main__":
    unittest.main()
