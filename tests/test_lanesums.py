import unittest
from fractions import Fraction

from helping import AXES, NO_NUMBERS, number, only_tuples, point, refused, traced
from test_facerows import BAD_ROWS
from test_lanes import BEYOND, some_lanes
from tautparcel.along import all_hows, led_box, led_face, led_slope, scaled_box
from tautparcel.boxes import Box
from tautparcel.cornerways import all_corner_ways
from tautparcel.errors import BadDirection, BadFace, BadSlope, TooMany
from tautparcel.facerows import begun_row
from tautparcel.lanes import Lanes, lane_of_strip, lanes_of, Strip, sideways_range, strips_of, twin_of
from tautparcel.lanesums import (
    area_of, broadest_lane, longest_lane, rows_fault, share_of, shares_of, strips_on, whole_area, whole_length,
)
from tautparcel.slopes import directions_on
from tautparcel.taut import entrances_in, taut_row

CUBE = Box((1, 1, 1))
BOX = Box((2, 3, 5))


def by_hand(lanes):
    """The same lanes the other way round, begun elsewhere."""
    order = [taut_row(lanes.box, begun_row(lane.faces, len(lane.faces) // 2)) for lane in lanes]
    return Lanes(lanes.box, lanes.slope, tuple(order[::-1]))


class Areas(unittest.TestCase):
    def test_sums_over_all_lanes(self):
        for lanes in some_lanes():
            self.assertEqual(whole_area(lanes), 4 * lanes.box.skin_area)
            self.assertEqual(whole_area(lanes), sum(lane.length * lane.breadth for lane in lanes))
            self.assertEqual(whole_length(lanes), sum(lane.length for lane in lanes))
            if lanes.slope != (1, 0):
                ways = all_corner_ways(lanes.box, lanes.slope)
                self.assertEqual(whole_length(lanes), sum(way.length for way in ways))
            for lane in lanes:
                self.assertEqual(area_of(lane), lane.length * lane.breadth)

    def test_small_ones(self):
        lanes = lanes_of(CUBE, (1, 1))
        self.assertEqual((whole_area(lanes), whole_length(lanes), area_of(lanes.lanes[0])), (24, 24, 3))
        self.assertEqual((whole_area(Lanes(CUBE, (1, 1), ())), whole_length(Lanes(CUBE, (1, 1), ()))), (0, 0))
        some = Lanes(CUBE, (1, 1), lanes.lanes[:3])
        self.assertEqual((whole_area(some), whole_length(some)), (9, 9))
        self.assertEqual([type(value) for value in (whole_area(lanes), whole_length(lanes), area_of(lanes.lanes[0]))],
                         [int, int, int])


class Shares(unittest.TestCase):
    def test_example(self):
        for lane in lanes_of(CUBE, (1, 1)):
            self.assertEqual(shares_of(lane), ((1, 2),) * 6)

    def test_by_the_middle_of_each_strip(self):
        for lanes in some_lanes()[::3]:
            for lane in lanes:
                middle = (lane.breadth // 2, 1) if lane.breadth % 2 == 0 else (lane.breadth, 2)
                told = [Fraction(0)] * 6
                for _, (where, face, direction) in entrances_in(lane, middle):
                    length = traced(lanes.box.sides, point(where), face, direction, 1)[0][4]
                    told[face] += lane.breadth * length
                self.assertEqual([number(share) for share in shares_of(lane)], told)
                self.assertEqual([share_of(lane, face) for face in range(6)], list(shares_of(lane)))
                self.assertTrue(only_tuples(shares_of(lane)))

    def test_sums(self):
        for lanes in some_lanes():
            faces = [Fraction(0)] * 6
            for lane in lanes:
                shares = [number(share) for share in shares_of(lane)]
                self.assertEqual(sum(shares), area_of(lane))
                faces = [one + other for one, other in zip(faces, shares)]
            for face in range(6):
                first, second = AXES[face]
                self.assertEqual(faces[face], 4 * lanes.box.sides[first] * lanes.box.sides[second])

    def test_begun_anywhere_and_the_twin(self):
        for lanes in some_lanes()[::7]:
            for lane in lanes:
                begun = taut_row(lanes.box, begun_row(lane.faces, 2))
                self.assertEqual(shares_of(begun), shares_of(lane))
                self.assertEqual(shares_of(twin_of(lane)), shares_of(lane))

    def test_steep_lanes(self):
        lane = lane_of_strip(CUBE, Strip(5, (11, 10, 0), 0, 1))
        self.assertEqual(sum(number(share) for share in shares_of(lane)), area_of(lane))

    def test_led_along(self):
        lanes = lanes_of(BOX, (2, 1))
        for how in all_hows()[::9]:
            told = sorted(tuple(shares_of(lane)) for lane in lanes_of(led_box(BOX, how), led_slope((2, 1), how)))
            led = []
            for lane in lanes:
                shares = [None] * 6
                for face, share in enumerate(shares_of(lane)):
                    shares[led_face(face, how)] = share
                led.append(tuple(shares))
            self.assertEqual(sorted(led), told)
        for lane, other in zip(lanes, lanes_of(scaled_box(BOX, 3), (2, 1))):
            self.assertEqual([9 * number(share) for share in shares_of(lane)], [number(s) for s in shares_of(other)])

    def test_refused(self):
        lane = lanes_of(CUBE, (1, 1)).lanes[0]
        for face in NO_NUMBERS + [-1, 6]:
            refused(self, BadFace, {"face": face}, share_of, lane, face)


class StripsOn(unittest.TestCase):
    def test_all_strips(self):
        for lanes in some_lanes()[::7]:
            for held in (lanes, by_hand(lanes)):
                for face in range(6):
                    for direction in directions_on(face, lanes.slope):
                        found = strips_on(held, face, list(direction))
                        told = []
                        for index, lane in enumerate(held.lanes):
                            for at, strip in enumerate(strips_of(lane)):
                                if (strip.face, strip.direction) == (face, direction):
                                    told.append((strip.low, strip.high, index, at))
                        self.assertEqual(found, tuple(sorted(told)))
                        self.assertTrue(only_tuples(found))
                        low, high = sideways_range(lanes.box, face, direction)
                        self.assertEqual([row[0] for row in found], [low] + [row[1] for row in found[:-1]])
                        self.assertEqual(found[-1][1], high)

    def test_other_slopes(self):
        lanes = lanes_of(BOX, (2, 1))
        for direction in ((1, 2, 0), (1, 1, 0), (1, 0, 0), (11, 10, 0)):
            self.assertEqual(strips_on(lanes, 5, direction), ())
        self.assertEqual(strips_on(Lanes(BOX, (2, 1), ()), 5, (2, 1, 0)), ())

    def test_refused(self):
        lanes = lanes_of(BOX, (2, 1))
        for face in NO_NUMBERS + [-1, 6]:
            refused(self, BadFace, {"face": face}, strips_on, lanes, face, None)
        for direction, what in ((None, "kind"), ((True, 1, 0), "kind"), ((0, 1, 1), "axis"), ((0, 0, 0), "both"),
                                ((2, 2, 0), "common")):
            refused(self, BadDirection, {"what": what}, strips_on, lanes, 5, direction)


class RowsFault(unittest.TestCase):
    def test_right_ones(self):
        for lanes in some_lanes()[::2]:
            rows = [lane.faces for lane in lanes]
            self.assertIsNone(rows_fault(lanes.box, list(lanes.slope), rows))
            begun = tuple(list(begun_row(row, len(row) // 3)) for row in rows[::-1])
            self.assertIsNone(rows_fault(lanes.box, lanes.slope, begun))

    def test_row(self):
        for row, _ in BAD_ROWS + [(CUBE, 0), (True, 0), ({1}, 0)]:
            self.assertEqual(rows_fault(CUBE, (1, 1), [row]), "row")
            self.assertEqual(rows_fault(CUBE, (1, 1), [(0, 2, 5, 1, 3, 4), row, row]), "row")

    def test_lane(self):
        for row in ((0, 2, 4), (0, 2, 4, 0, 2, 4), (0, 2, 5, 1, 3, 4) * 2, (0, 2, 1, 4, 3, 5)):
            self.assertEqual(rows_fault(BOX, (1, 1), [row]), "lane")

    def test_slope(self):
        self.assertEqual(rows_fault(CUBE, (1, 1), [(0, 2, 1, 3)]), "slope")
        self.assertEqual(rows_fault(CUBE, (1, 0), [(0, 2, 5, 1, 3, 4)]), "slope")
        self.assertEqual(rows_fault(BOX, (1, 2), [lane.faces for lane in lanes_of(BOX, (2, 1))]), "slope")

    def test_twice(self):
        for lanes in some_lanes()[::9]:
            rows = [lane.faces for lane in lanes]
            self.assertEqual(rows_fault(lanes.box, lanes.slope, rows + rows[:1]), "twice")
            again = begun_row(rows[1], 1)
            self.assertEqual(rows_fault(lanes.box, lanes.slope, [*rows[:2], list(again)]), "twice")
            # The twin is another lane.
            self.assertEqual(rows_fault(lanes.box, lanes.slope, rows[:2]), None if len(rows) == 2 else "lacking")

    def test_lacking(self):
        for lanes in some_lanes()[::5]:
            rows = [lane.faces for lane in lanes]
            self.assertEqual(rows_fault(lanes.box, lanes.slope, ()), "lacking")
            for index in range(len(rows)):
                self.assertEqual(rows_fault(lanes.box, lanes.slope, rows[:index] + rows[index + 1:]), "lacking")

    def test_too_long_ones_are_lacking(self):
        held = {}
        for face in range(6):
            for direction in directions_on(face, (5, 9)):
                for low in range(*sideways_range(BEYOND, face, direction)):
                    try:
                        lane = lane_of_strip(BEYOND, Strip(face, direction, low, low + 1))
                        held[lane.faces] = True
                    except TooMany:
                        pass
        self.assertEqual(rows_fault(BEYOND, (5, 9), list(held)), "lacking")

    def test_rows_come_one_by_one(self):
        good, other, bad = (0, 2, 5, 1, 3, 4), (0, 2, 1, 3), (0, 2, 4)
        self.assertEqual(rows_fault(CUBE, (1, 1), [good, good, None]), "twice")
        self.assertEqual(rows_fault(CUBE, (1, 1), [other, bad, None]), "slope")
        self.assertEqual(rows_fault(CUBE, (1, 1), [bad, other, good, good]), "lane")
        self.assertEqual(rows_fault(CUBE, (1, 1), [None, bad]), "row")

    def test_slopes_refused(self):
        for slope in ((0, 1), (2, 2), (10, 1), None, (True, 1), "11"):
            refused(self, BadSlope, {"slope": slope}, rows_fault, BOX, slope, [None])


class Greatest(unittest.TestCase):
    def test_all(self):
        for lanes in some_lanes():
            for held in (lanes, by_hand(lanes)):
                lengths = [lane.length for lane in held]
                breadths = [lane.breadth for lane in held]
                self.assertEqual(longest_lane(held), lengths.index(max(lengths)))
                self.assertEqual(broadest_lane(held), breadths.index(max(breadths)))

    def test_the_least_number_of_several(self):
        lanes = lanes_of(CUBE, (1, 1))
        self.assertEqual((longest_lane(lanes), broadest_lane(lanes)), (0, 0))
        bands = lanes_of(BOX, (1, 0))
        told = [(lane.length, lane.breadth) for lane in bands]
        self.assertEqual(told, [(10, 5), (10, 5), (14, 3), (14, 3), (16, 2), (16, 2)])
        self.assertEqual((longest_lane(bands), broadest_lane(bands)), (4, 0))
        turned = Lanes(BOX, (1, 0), bands.lanes[::-1])
        self.assertEqual((longest_lane(turned), broadest_lane(turned)), (0, 4))


if __name__ == "__main__":
    unittest.main()
