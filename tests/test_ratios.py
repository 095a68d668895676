import unittest
from fractions import Fraction

from helpers import number, pair, sources
from joinpast.errors import NoQuotient
from joinpast.ratios import fraction, over, plus, times

BIG = 10 ** 30


class RatiosTest(unittest.TestCase):
    def test_interface_example(self):
        self.assertEqual([fraction((2, -4)), fraction(3), over((1, 2), -3)], [(-1, 2), (3, 1), (-1, 6)])

    def test_fraction(self):
        self.assertEqual(fraction(0), (0, 1))
        self.assertEqual(fraction(-7), (-7, 1))
        self.assertEqual(fraction((0, 5)), (0, 1))
        self.assertEqual(fraction((0, -5)), (0, 1))
        self.assertEqual(fraction([6, 4]), (3, 2))
        self.assertEqual(fraction((-6, -4)), (3, 2))
        self.assertEqual(fraction((-6, 4)), (-3, 2))
        self.assertEqual(fraction((5, 1)), (5, 1))
        self.assertEqual(fraction((BIG, -BIG)), (-1, 1))
        self.assertEqual(fraction((BIG, BIG - 1)), (BIG, BIG - 1))
        self.assertIs(type(fraction([1, 2])), tuple)

    def test_plus_times_over(self):
        self.assertEqual(plus((1, 2), (1, 2)), (1, 1))
        self.assertEqual(plus((1, 2), (-1, 2)), (0, 1))
        self.assertEqual(plus((1, -2), 3), (5, 2))
        self.assertEqual(plus(2, 3), (5, 1))
        self.assertEqual(times((2, 3), (3, -2)), (-1, 1))
        self.assertEqual(times(0, (7, 3)), (0, 1))
        self.assertEqual(times([1, 2], [4, 6]), (1, 3))
        self.assertEqual(over(1, (-2, 3)), (-3, 2))
        self.assertEqual(over(0, (-2, 3)), (0, 1))
        self.assertEqual(over((BIG, 1), (1, BIG)), (BIG * BIG, 1))

    def test_over_zero(self):
        for zero in (0, (0, 1), (0, -7)):
            with self.assertRaises(NoQuotient):
                over((1, 2), zero)
            with self.assertRaises(NoQuotient):
                over(0, zero)

    def test_against_fractions(self):
        for source in sources(200):
            one = (source.randint(-20, 20), source.choice([-6, -4, -1, 1, 2, 3, 12]))
            two = source.choice([source.randint(-5, 5), (source.randint(-9, 9), source.choice([-3, 2, 8]))])
            a, b = number(one), number(two)
            self.assertEqual(fraction(one), pair(a))
            self.assertEqual(plus(one, two), pair(a + b))
            self.assertEqual(times(one, two), pair(a * b))
            if b:
                self.assertEqual(over(one, two), pair(a / b))
            else:
                self.assertRaises(NoQuotient, over, one, two)
        self.assertEqual(pair(Fraction(-1, 2)), (-1, 2))


if __name__ == "__main__":
    unittest.main()
