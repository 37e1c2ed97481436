import unittest
from fractions import Fraction

from helping import NO_NUMBERS, number, ratio, refused
from tautparcel import ratios
from tautparcel.errors import BadRatio
from tautparcel.ratios import (
    HALF, ONE, ZERO, broken_of, compare, floor_of, greatest_of, is_ratio, is_whole, least_of, make_ratio, minus,
    negative, over, plus, ratio_text, sum_of, times,
)

SOME = [(0, 1), (1, 1), (-1, 1), (1, 2), (-1, 2), (7, 3), (-7, 3), (22, 7), (10 ** 30 + 1, 10 ** 12), (-5, 9)]


class Kinds(unittest.TestCase):
    def test_constants(self):
        self.assertEqual((ZERO, ONE, HALF), ((0, 1), (1, 1), (1, 2)))

    def test_is_whole(self):
        for thing in (0, 1, -1, 10 ** 40):
            self.assertIs(is_whole(thing), True)
        for thing in NO_NUMBERS:
            self.assertIs(is_whole(thing), False, repr(thing))
            self.assertIs(is_whole(thing, 0, 5), False)

    def test_is_whole_bounds(self):
        self.assertEqual([is_whole(n, 2, 4) for n in range(1, 6)], [False, True, True, True, False])
        self.assertEqual([is_whole(n, 2) for n in range(1, 4)], [False, True, True])
        self.assertEqual([is_whole(n, None, 2) for n in range(1, 4)], [True, True, False])
        self.assertEqual([is_whole(n, high=2) for n in range(1, 4)], [True, True, False])
        self.assertEqual([is_whole(n, low=0, high=0) for n in (-1, 0, 1)], [False, True, False])

    def test_is_ratio(self):
        for thing in SOME:
            self.assertIs(is_ratio(thing), True)
            self.assertIs(is_ratio(list(thing)), True)
        wrong = [
            (0, 2), (2, 4), (1, 0), (1, -1), (0, 0), (1,), (1, 1, 1), (), 1, "11", None, (True, 1), (1, True),
            (1.0, 1), ("1", 1), {1: 1, 2: 2}, (False, 1), Fraction(1, 2), ((1, 1), 1),
        ]
        for thing in wrong:
            self.assertIs(is_ratio(thing), False, repr(thing))

    def test_make_ratio(self):
        self.assertEqual(make_ratio(6, 4), (3, 2))
        self.assertEqual(make_ratio(6, -4), (-3, 2))
        self.assertEqual(make_ratio(-6, -4), (3, 2))
        self.assertEqual(make_ratio(0, -7), (0, 1))
        self.assertEqual(make_ratio(5), (5, 1))
        self.assertIs(type(make_ratio(6, 4)), tuple)

    def test_make_ratio_refuses(self):
        for thing in NO_NUMBERS:
            refused(self, BadRatio, {"what": "top"}, make_ratio, thing, 1)
            refused(self, BadRatio, {"what": "bottom"}, make_ratio, 1, thing)
        refused(self, BadRatio, {"what": "bottom"}, make_ratio, 1, 0)
        refused(self, BadRatio, {"what": "top"}, make_ratio, True, 0)


class Sums(unittest.TestCase):
    def test_against_fractions(self):
        for one in SOME:
            for other in SOME:
                a, b = number(one), number(other)
                self.assertEqual(plus(one, other), ratio(a + b))
                self.assertEqual(minus(one, list(other)), ratio(a - b))
                self.assertEqual(times(list(one), other), ratio(a * b))
                self.assertEqual(compare(one, other), (a > b) - (a < b))
                if b:
                    self.assertEqual(over(one, other), ratio(a / b))
                    self.assertTrue(is_ratio(over(one, other)))

    def test_over_zero(self):
        refused(self, BadRatio, {"what": "zero"}, over, (1, 2), (0, 1))
        refused(self, BadRatio, {"what": "zero"}, over, (0, 1), [0, 1])

    def test_one_ratio(self):
        for one in SOME:
            value = number(one)
            self.assertEqual(negative(one), ratio(-value))
            self.assertEqual(floor_of(one), value.numerator // value.denominator)
            self.assertEqual(broken_of(one), ratio(value - floor_of(one)))
        self.assertEqual(floor_of((-1, 2)), -1)
        self.assertEqual(broken_of((-1, 3)), (2, 3))
        self.assertEqual(broken_of((-4, 1)), (0, 1))

    def test_many_ratios(self):
        self.assertEqual(sum_of([]), ZERO)
        self.assertEqual(sum_of(()), ZERO)
        self.assertEqual(sum_of([(1, 2), [1, 3]]), (5, 6))
        self.assertEqual(sum_of(SOME), ratio(sum(number(one) for one in SOME)))
        self.assertEqual(least_of(SOME), (-7, 3))
        self.assertEqual(greatest_of(tuple(SOME)), (10 ** 30 + 1, 10 ** 12))
        self.assertEqual(least_of([(1, 3)]), (1, 3))
        self.assertEqual(greatest_of([[1, 3]]), (1, 3))

    def test_results_are_tuples(self):
        for call in (least_of, greatest_of, sum_of):
            self.assertIs(type(call([[1, 2], [1, 2]])), tuple)
        for call in (negative, broken_of):
            self.assertIs(type(call([1, 2])), tuple)
        for call in (plus, minus, times, over):
            self.assertIs(type(call([1, 2], [1, 2])), tuple)

    def test_text(self):
        self.assertEqual([ratio_text(one) for one in [(3, 1), (-1, 2), (0, 1), [5, 7]]], ["3", "-1/2", "0", "5/7"])

    def test_nothing_is_changed(self):
        rows = [[1, 2], [-3, 4]]
        sum_of(rows), least_of(rows), greatest_of(rows), plus(rows[0], rows[1]), negative(rows[0])
        self.assertEqual(rows, [[1, 2], [-3, 4]])

    def test_defined_here(self):
        for name in ("is_whole", "make_ratio", "plus", "ratio_text"):
            self.assertEqual(getattr(ratios, name).__module__, "tautparcel.ratios")


if __name__ == "__main__":
    unittest.main()
