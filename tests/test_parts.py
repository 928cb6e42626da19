"""Point 3: parts, their sums, products, order and texts."""

import unittest
from fractions import Fraction
from math import gcd

from calmcuts.errors import BadPart, BadText
from calmcuts.parts import (greater, greatest_of, is_number, is_part, least_of, less, lesser, minus, over, part,
                            part_text, plus, read_part, times)

SIXTY = 10 ** 59 + 7
TWO_HUNDRED = 10 ** 200 - 1
NUMBERS = [0, 1, 2, 3, 4, 6, 12, 97, 400000, SIXTY, 6 * SIXTY, TWO_HUNDRED, TWO_HUNDRED - 9, 10 ** 199]
SIGNED = NUMBERS + [-number for number in NUMBERS if number]
PARTS = [(0, 1), (1, 1), (-1, 1), (1, 2), (-1, 2), (2, 3), (-7, 3), (22, 7), (5, 12), (7, 12), (SIXTY, 1), (1, SIXTY),
         (-SIXTY, 10 ** 59), (TWO_HUNDRED, 10 ** 199), (-10 ** 199, TWO_HUNDRED), (1, TWO_HUNDRED), (TWO_HUNDRED, 1)]


def fraction(one):
    return Fraction(one[0], one[1])


def pair(one):
    return (one.numerator, one.denominator)


class Part(unittest.TestCase):
    def test_plain(self):
        self.assertEqual(part(1, 2), (1, 2))
        self.assertEqual(part(6, 4), (3, 2))
        self.assertEqual(part(6, 3), (2, 1))
        self.assertEqual(part(5, 1), (5, 1))

    def test_signs(self):
        self.assertEqual(part(-6, 4), (-3, 2))
        self.assertEqual(part(6, -4), (-3, 2))
        self.assertEqual(part(-6, -4), (3, 2))
        self.assertEqual(part(1, -1), (-1, 1))

    def test_nought(self):
        for below in SIGNED:
            if below:
                self.assertEqual(part(0, below), (0, 1))

    def test_below_is_nought(self):
        for above in SIGNED:
            with self.assertRaises(BadPart) as caught:
                part(above, 0)
            self.assertEqual(caught.exception.called, "BadPart")

    def test_lowest_terms(self):
        for above in SIGNED:
            for below in SIGNED:
                if below:
                    found = part(above, below)
                    self.assertIsInstance(found, tuple)
                    self.assertEqual(found, pair(Fraction(above, below)))
                    self.assertGreaterEqual(found[1], 1)
                    self.assertEqual(gcd(*found), 1)

    def test_by_names(self):
        self.assertEqual(part(below=4, above=2), (1, 2))


class Reckoning(unittest.TestCase):
    def test_plain(self):
        self.assertEqual(plus((1, 3), (1, 6)), (1, 2))
        self.assertEqual(minus((1, 3), (1, 3)), (0, 1))
        self.assertEqual(minus((1, 6), (1, 2)), (-1, 3))
        self.assertEqual(times((2, 3), (3, 2)), (1, 1))
        self.assertEqual(over((2, 3), (-4, 3)), (-1, 2))
        self.assertEqual(over((0, 1), (-4, 3)), (0, 1))

    def test_all_pairs(self):
        for one in PARTS:
            for other in PARTS:
                first, second = fraction(one), fraction(other)
                self.assertEqual(plus(one, other), pair(first + second))
                self.assertEqual(minus(one, other), pair(first - second))
                self.assertEqual(times(one, other), pair(first * second))
                if second:
                    self.assertEqual(over(one, other), pair(first / second))

    def test_order(self):
        for one in PARTS:
            for other in PARTS:
                self.assertIs(less(one, other), fraction(one) < fraction(other))
                self.assertEqual(lesser(one, other), min(one, other, key=fraction))
                self.assertEqual(greater(one, other), max(one, other, key=fraction))

    def test_least_and_greatest_of_many(self):
        for at, one in enumerate(PARTS):
            self.assertEqual((least_of([one]), greatest_of([one])), (one, one))
            turned = PARTS[at:] + PARTS[:at]
            self.assertEqual(least_of(turned), min(PARTS, key=fraction))
            self.assertEqual(greatest_of(turned), max(PARTS, key=fraction))

    def test_the_same_part_twice(self):
        for one in PARTS:
            self.assertIs(less(one, one), False)
            self.assertEqual(minus(one, one), (0, 1))
            self.assertEqual(plus(one, one), times(one, (2, 1)))
            if one != (0, 1):
                self.assertEqual(over(one, one), (1, 1))

    def test_nearly_alike(self):
        self.assertIs(less((TWO_HUNDRED - 1, TWO_HUNDRED), (TWO_HUNDRED - 2, TWO_HUNDRED - 1)), False)
        self.assertIs(less((TWO_HUNDRED - 2, TWO_HUNDRED - 1), (TWO_HUNDRED - 1, TWO_HUNDRED)), True)

    def test_over_nought(self):
        for one in PARTS:
            with self.assertRaises(BadPart):
                over(one, (0, 1))

    def test_by_names(self):
        self.assertEqual(minus(other=(1, 2), one=(1, 1)), (1, 2))
        self.assertEqual(over(other=(2, 1), one=(1, 1)), (1, 2))
        self.assertIs(less(other=(1, 2), one=(1, 1)), False)


class Texts(unittest.TestCase):
    def test_written(self):
        for one, text in [((0, 1), "0"), ((5, 1), "5"), ((-5, 1), "-5"), ((1, 2), "1/2"), ((-10, 7), "-10/7")]:
            self.assertEqual(part_text(one), text)
            self.assertEqual(read_part(text), one)

    def test_read_back(self):
        for one in PARTS:
            self.assertEqual(read_part(part_text(one)), one)

    def test_two_hundred_figures(self):
        great = "9" * 200
        prime_to_it = "1" + "0" * 199
        self.assertEqual(read_part(great), (TWO_HUNDRED, 1))
        self.assertEqual(read_part("-" + great), (-TWO_HUNDRED, 1))
        self.assertEqual(read_part("1/" + great), (1, TWO_HUNDRED))
        self.assertEqual(read_part(f"-{great}/{prime_to_it}"), (-TWO_HUNDRED, 10 ** 199))

    def test_refused(self):
        refused = [
            "", "-", "/", "-/", "00", "01", "-01", "1/02", "1/00", "-0", "+1", "+1/2", "--1", "1-", "1/1", "-3/1", "0/1",
            "0/5", "-0/5", "2/4", "-2/4", "4/2", "1/0", "0/0", "1/-2", "-1/-2", "1/+2", "1/", "/2", "-/2", "1//2",
            "1/2/3", "1/2/", " ", " 1", "1 ", "1 /2", "1/ 2", "- 1", "1 2", "a", "1a", "1/b", "1e3", "0x1", "1_0", "1.5",
            "1,5", "\n", "1\n", "\n1", "1/2\n", "1/\n2", "1\n/2", "1:2", "~", "\u00b2", "1/\u0663"]
        for text in refused:
            with self.subTest(text):
                self.refuses(text)

    def test_too_many_figures(self):
        for many in (201, 202, 1000, 4300, 4301, 9000, 19998):
            with self.subTest(many):
                figures = "1" + "0" * (many - 1)
                for text in (figures, "-" + figures, "1/" + figures, "-1/" + figures, figures + "/3"):
                    self.refuses(text)
                self.refuses("0" * many)
                self.refuses("1/" + "0" * many)
        self.refuses("7" * 9999 + "/" + "3" * 9999)

    def refuses(self, text):
        with self.assertRaises(BadText) as caught:
            read_part(text)
        self.assertEqual(vars(caught.exception), {"called": "BadText", "at": 0})


class Kinds(unittest.TestCase):
    def test_numbers(self):
        for number in SIGNED:
            self.assertIs(is_number(number), True)
        for thing in (True, False, None, "1", 1.0, (1, 1), [1], b"1"):
            self.assertIs(is_number(thing), False)

    def test_parts(self):
        for one in PARTS:
            self.assertIs(is_part(one), True)
        for thing in (1, None, "1", [1, 2], (1,), (1, 2, 3), (), (0, 2), (2, 4), (1, 0), (0, 0), (1, -2), (True, 1),
                      (1, True), (False, 1), ("1", 2), (1, None), ((1, 2), 1), {1: 2}, {1, 2}, "12"):
            self.assertIs(is_part(thing), False)


if __name__ == "__main__":
    unittest.main()
