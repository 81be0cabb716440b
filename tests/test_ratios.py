"""Whole numbers and ratios: points 0.4 and 1.1."""

from fractions import Fraction

from tests.helpers import Case
from usualdays.errors import BadRatio
from usualdays.ratios import compare_ratios, is_whole, ratio, ratio_product, ratio_sum

NUMBERS = (-12, -7, -2, -1, 0, 1, 2, 3, 8, 30)


class Whole(Case):
    def test_0_4_bounds_belong_to_it(self):
        for number, low, high, wanted in (
                (0, 0, 0, True), (1, 0, 3, True), (0, 0, 3, True), (3, 0, 3, True), (-1, 0, 3, False),
                (4, 0, 3, False), (-5, -5, -1, True), (-6, -5, -1, False), (2, 3, 1, False),
                (10 ** 40, 0, 10 ** 40, True), (10 ** 40 + 1, 0, 10 ** 40, False)):
            self.assertIs(is_whole(number, low, high), wanted, (number, low, high))

    def test_0_4_other_things_are_no_whole_numbers(self):
        for thing in (True, False, None, "1", "", 1.0, 1.5, (1,), [1], {}, b"1"):
            self.assertIs(is_whole(thing, -10, 10), False, thing)


class Ratios(Case):
    def test_1_1_lowest_terms(self):
        for top in NUMBERS:
            for bottom in NUMBERS:
                if bottom != 0:
                    value = Fraction(top, bottom)
                    made = ratio(top, bottom)
                    self.assertIs(type(made), tuple)
                    self.assertEqual(made, (value.numerator, value.denominator))

    def test_1_1_zero(self):
        for bottom in (1, 5, -5):
            self.assertEqual(ratio(0, bottom), (0, 1))

    def test_1_1_great_numbers(self):
        self.assertEqual(ratio(6 * 10 ** 250, -4 * 10 ** 249), (-15, 1))

    def test_1_1_no_zero_below(self):
        for top in (0, 1, -3):
            self.refuses(BadRatio(), ratio, top, 0)

    def test_1_1_compare_sum_product(self):
        ratios = [ratio(top, bottom) for top in NUMBERS for bottom in (1, 2, 3, 8)]
        for one in ratios:
            for other in ratios:
                left, right = Fraction(*one), Fraction(*other)
                self.assertEqual(compare_ratios(one, other), (left > right) - (left < right))
                total, product = left + right, left * right
                self.assertEqual(ratio_sum(one, other), (total.numerator, total.denominator))
                self.assertEqual(ratio_product(one, other), (product.numerator, product.denominator))

    def test_1_1_close_ratios(self):
        big = 10 ** 30
        self.assertEqual(compare_ratios((big, big + 1), (big - 1, big)), 1)
        self.assertEqual(compare_ratios((big - 1, big), (big, big + 1)), -1)
        self.assertEqual(compare_ratios((1, 3), (1, 3)), 0)
