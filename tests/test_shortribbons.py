import unittest
from math import gcd

from helping import ALL_SLOPES, NO_NUMBERS, check_result, number, only_tuples, refused
from test_lanes import BEYOND
from tautparcel.along import all_hows, led_box
from tautparcel.boxes import Box
from tautparcel.counts import least_length
from tautparcel.errors import BadMost, BadSteep, TooMany
from tautparcel.lanes import lanes_of
from tautparcel.shortribbons import (
    Broadest, Short, broadest_lanes, short_lanes, shortest_lanes, slopes_to,
)

CUBE = Box((1, 1, 1))
BOX = Box((2, 3, 5))
SMALL = [CUBE, Box((1, 1, 2)), Box((2, 1, 1)), Box((1, 2, 3)), Box((2, 2, 3))]
KNOWN = {}


def squares(box, steep, band):
    """All lanes of slopes up to a bound, with their squares, in order."""
    if (box.sides, steep) not in KNOWN:
        KNOWN[(box.sides, steep)] = [
            (lane.length ** 2 * (p * p + q * q), (p, q), lane)
            for p, q in [(1, 0)] + [slope for slope in ALL_SLOPES if max(slope) <= steep]
            for lane in lanes_of(box, (p, q))
        ]
    return [row for row in KNOWN[(box.sides, steep)] if band or row[1] != (1, 0)]


def told(shorts):
    return [(short.square, short.slope, short.lane) for short in shorts]


class Slopes(unittest.TestCase):
    def test_all(self):
        for steep in range(1, 10):
            pairs = [(p, q) for p in range(1, steep + 1) for q in range(1, steep + 1) if gcd(p, q) == 1]
            self.assertEqual(slopes_to(steep), tuple(pairs))
        self.assertEqual((slopes_to(1), len(slopes_to(9))), (((1, 1),), 55))

    def test_refused(self):
        for steep in NO_NUMBERS + [0, 10, -1]:
            refused(self, BadSteep, {"steep": steep}, slopes_to, steep)
            refused(self, BadSteep, {"steep": steep}, short_lanes, BOX, 0, steep)
            refused(self, BadSteep, {"steep": steep}, shortest_lanes, BEYOND, steep)
            refused(self, BadSteep, {"steep": steep}, broadest_lanes, BEYOND, steep)


class ShortLanes(unittest.TestCase):
    def test_by_all_lanes(self):
        for box in SMALL:
            for steep in (1, 2, 4, 9) if box == CUBE else (1, 3):
                rows = squares(box, steep, True)
                bounds = sorted({row[0] for row in rows})
                for most in [0, 15, 16, *bounds[:6], *[bound - 1 for bound in bounds[:6]], bounds[-1], 10 ** 6]:
                    expected = sorted([row for row in rows if row[0] <= most], key=lambda row: row[:2])
                    found = short_lanes(box, most, steep)
                    self.assertEqual(told(found), expected)
                    self.assertTrue(only_tuples(found))

    def test_on_and_just_below_a_square(self):
        # The bands of the cube have the square 16, the lanes of (1, 1) the square 18.
        self.assertEqual((len(short_lanes(CUBE, 15, 9)), len(short_lanes(CUBE, 16, 9))), (0, 6))
        self.assertEqual((len(short_lanes(CUBE, 17, 9)), len(short_lanes(CUBE, 18, 9))), (6, 14))
        self.assertEqual(short_lanes(CUBE, 0, 1), ())
        self.assertEqual({short.slope for short in short_lanes(CUBE, 10 ** 6, 1)}, {(1, 0), (1, 1)})

    def test_no_short_ribbon_outside(self):
        for box in SMALL:
            rows = squares(box, 9, True)
            for steep in range(1, 9):
                most = (steep + 1) ** 2
                self.assertEqual(len(short_lanes(box, most, steep)), len([row for row in rows if row[0] <= most]))

    def test_refused_in_order(self):
        for most in NO_NUMBERS + [-1, 10 ** 6 + 1]:
            refused(self, BadMost, {"most": most}, short_lanes, BOX, most, 0)
        for steep in (0, 10, True):
            refused(self, BadSteep, {"steep": steep}, short_lanes, BEYOND, 10 ** 6, steep)

    def test_only_asked_slopes_are_too_many(self):
        """The lanes of (5, 9) are too long on this box, those of the slopes before it, to 5 and 4, are not."""
        many = []
        for slope in slopes_to(9):
            try:
                lanes_of(BEYOND, slope)
            except TooMany:
                many.append(least_length(BEYOND, slope) ** 2 * (slope[0] ** 2 + slope[1] ** 2))
        self.assertGreater(len(many), 0)
        short_lanes(BEYOND, min(many) - 1, 9)
        refused(self, TooMany, {"most": 400}, short_lanes, BEYOND, min(many), 9)
        refused(self, TooMany, {"most": 400}, short_lanes, BEYOND, 10 ** 6, 9)
        for call in (shortest_lanes, broadest_lanes):
            refused(self, TooMany, {"most": 400}, call, BEYOND, 9)

    def test_results(self):
        check_result(self, Short, ["square", "slope", "lane"])
        check_result(self, Broadest, ["square", "lanes"])

    def test_the_same_seen_otherwise(self):
        rows = sorted((short.square, short.lane.breadth) for short in short_lanes(BOX, 900, 4))
        for how in all_hows()[::7]:
            led = short_lanes(led_box(BOX, how), 900, 4)
            self.assertEqual(sorted((short.square, short.lane.breadth) for short in led), rows)


class Extremes(unittest.TestCase):
    def test_shortest(self):
        for box in SMALL + [BOX]:
            for steep in (1, 3, 5):
                rows = squares(box, steep, False)
                least = min(row[0] for row in rows)
                found = shortest_lanes(box, steep)
                self.assertEqual(told(found), [row for row in rows if row[0] == least])
                self.assertTrue(only_tuples(found))

    def test_broadest(self):
        for box in SMALL + [BOX]:
            for steep in (1, 3, 5):
                rows = squares(box, steep, False)
                breadths = [(lane.breadth ** 2, p * p + q * q) for _, (p, q), lane in rows]
                greatest = max(number(breadth) for breadth in breadths)
                found = broadest_lanes(box, steep)
                self.assertEqual(number(found.square), greatest)
                self.assertEqual(gcd(*found.square), 1)
                lanes = [row[2] for row, breadth in zip(rows, breadths) if number(breadth) == greatest]
                self.assertEqual(found.lanes, tuple(lanes))
                self.assertTrue(only_tuples((found.square, found.lanes)))

    def test_steepest(self):
        self.assertEqual(len(shortest_lanes(CUBE, 9)), 8)
        found = broadest_lanes(CUBE, 9)
        self.assertEqual((found.square, len(found.lanes)), ((1, 2), 8))


if __name__ == "__main__":
    unittest.main()
