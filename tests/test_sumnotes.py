import unittest

from helpers import random_polynomial, random_sum, raised, sources
from joinpast.errors import BadNotation
from joinpast.polynomials import polynomial
from joinpast.ratios import fraction
from joinpast.sumnotes import (
    format_fraction, format_polynomial, format_sum, parse_fraction, parse_polynomial, parse_sum,
)
from joinpast.sums import ordered

BAD_NUMBERS = ["", "-", "+1", "01", "-01", "00", "-0", " 1", "1 ", "1\n", "--1", "1.0", "0x1", "1_0", "a", "1-"]


class WrittenTest(unittest.TestCase):
    def assert_bad(self, parse, text):
        error = raised(parse, text)
        self.assertIsInstance(error, BadNotation, (parse, text))
        self.assertEqual(error.line, 0)

    def test_interface_example(self):
        found = [format_sum([("b", -1, -3), ("a", 0, 2)]), format_polynomial([(1, 1), (0, -2)]), format_fraction((3, -6))]
        self.assertEqual(found, ["2 a 0, -3 b -1", "-2 0, 1 1", "-1/2"])

    def test_fractions(self):
        pairs = [(0, "0"), ((0, -7), "0"), (5, "5"), (-12, "-12"), ((4, 2), "2"), ((-4, 6), "-2/3"), ([10, 1], "10"),
                 ((10 ** 30, 7), "1" + "0" * 30 + "/7")]
        for value, text in pairs:
            self.assertEqual(format_fraction(value), text)
            self.assertEqual(parse_fraction(text), fraction(value))

    def test_strings_that_are_no_fractions(self):
        for text in BAD_NUMBERS + ["1/1", "2/4", "0/1", "0/5", "1/0", "1/-2", "1/", "/2", "1/2/3", "1 /2", "-1/-2", "3/+2", "1/02"]:
            self.assert_bad(parse_fraction, text)

    def test_polynomials(self):
        pairs = [((), "0"), ([(2, 0)], "0"), ([(3, 5)], "5 3"), ([(1, 4), (-20, -1), (1, -2)], "-1 -20, 2 1"), (((0, 1),), "1 0")]
        for p, text in pairs:
            self.assertEqual(format_polynomial(p), text)
            self.assertEqual(parse_polynomial(text), polynomial(p))

    def test_strings_that_are_no_polynomials(self):
        for text in ["", "1", "0 0", "0 1", "1 0,", "1 0,2 1", "1 0,  2 1", "1 0 , 2 1", "2 1, 1 0", "1 0, 2 0", "1 0, 0 1", "0, 1 0",
                     "1 a 0", "1 0 ", " 1 0", "1  0", "1 0, ", "1/2 0", "1 0\n", ", ", "1 00", "1 -0", "01 0", "+1 0", "x 0"]:
            self.assert_bad(parse_polynomial, text)

    def test_sums(self):
        pairs = [([], "0"), ([("a", 0, 0)], "0"), ([("z9", -3, -7)], "-7 z9 -3"),
                 ([("b", 0, 1), ("a", 5, 2), ("a", -5, 3)], "3 a -5, 2 a 5, 1 b 0")]
        for terms, text in pairs:
            self.assertEqual(format_sum(terms), text)
            self.assertEqual(parse_sum(text), ordered(terms))

    def test_strings_that_are_no_sums(self):
        for text in ["", "1", "1 a", "1 0", "0 a 0", "1 A 0", "1 9a 0", "1 abcdefghijk 0", "1  0", "1 a 0,", "1 a 0,1 b 0", "1 b 0, 1 a 0",
                     "1 a 1, 1 a 0", "1 a 0, 1 a 0", "1 a 0, 0 b 0", "0, 1 a 0", "1 a 0 0", "a 1 0", "1 a x", "1/2 a 0", " 1 a 0", "1 a 0 ",
                     "1 a -0", "1 a 01", "+1 a 0", "1 a 0\n", "1 a +1"]:
            self.assert_bad(parse_sum, text)

    def test_numbers_of_any_size(self):
        for digits in (63, 64, 65, 128, 129, 5000, 9000):
            number = 10 ** digits - 7
            for value in (number, -number, 10 ** digits, 7 * 10 ** (digits - 1)):
                text = format_fraction((value, 1))
                self.assertEqual(parse_fraction(text), (value, 1))
                self.assertEqual(parse_sum(format_sum([("a", 0, value)])), (("a", 0, value),))
            self.assertEqual(format_fraction(number), "9" * (digits - 1) + "3")
            self.assert_bad(parse_fraction, "0" + "9" * digits)
            self.assertEqual(parse_polynomial(format_polynomial([(digits, number)])), ((digits, number),))

    def test_what_is_written_is_read(self):
        for source in sources(100):
            terms = random_sum(source, ["a", "b", "c9"], terms=6, coefficient=20)
            self.assertEqual(parse_sum(format_sum(terms)), ordered(terms))
            p = random_polynomial(source, pairs=6, coefficient=20)
            self.assertEqual(parse_polynomial(format_polynomial(p)), polynomial(p))
            value = (source.randint(-50, 50), source.choice([1, 2, -3, 30]))
            self.assertEqual(parse_fraction(format_fraction(value)), fraction(value))


if __name__ == "__main__":
    unittest.main()
