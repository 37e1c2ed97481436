import unittest
from fractions import Fraction

from helping import (
    BOXES, NO_NUMBERS, SLOPES, as_lists, check_result, entrances, faces_with, number, only_tuples, place, point, ratio,
    refused, traced,
)
from test_lanes import BEYOND, some_lanes
from test_lanesums import by_hand
from tautparcel.along import (
    all_hows, keeps_sense, led_box, led_direction, led_face, led_place, scaled_box, scaled_place,
)
from tautparcel.boxes import Box, faces_of_corner
from tautparcel.cornerways import corner_direction
from tautparcel.errors import (
    BadDirection, BadFace, BadOffset, BadPlace, BadSlope, BadStart, OtherLane, TooMany,
)
from tautparcel.facerows import begun_row
from tautparcel.lanes import Strip, lane_of_strip, lanes_of, strips_of, twin_of
from tautparcel.places import place_of_corner
from tautparcel.rays import corner_ahead
from tautparcel.ribbons import Ribbon, back_ribbon, ribbon_begun, ribbon_of
from tautparcel.slopes import directions_on, sideways
from tautparcel.taut import entrances_in, taut_row
from tautparcel.wherelane import (
    OnBorder, Where, aside, lane_at, lane_of, lanes_through, middle_ribbon, offset_of, ribbon_in,
)

CUBE = Box((1, 1, 1))
BOX = Box((2, 3, 5))


def reached(box, corner, face, slope, gone):
    """The place, the face and the direction of the ray from a corner after a length, behind an edge."""
    start = point(place_of_corner(box, corner))
    for row in traced(box.sides, start, face, corner_direction(corner, face, slope), 10 ** 4):
        if gone < row[4]:
            return (tuple(one + gone * step for one, step in zip(row[2], row[1])), row[0], row[1])
        gone -= row[4]
    return None


class LaneAt(unittest.TestCase):
    def test_example(self):
        lanes = lanes_of(CUBE, (1, 1))
        found = lane_at(CUBE, [[3, 4], [1, 4], [1, 1]], 5, [1, 1, 0])
        self.assertEqual(found, Where(lanes.lanes[2], 2, (1, 2)))
        self.assertEqual((found.strip, found.offset), (2, (1, 2)))
        self.assertEqual(lane_at(CUBE, ((1, 4), (1, 4), (1, 1)), 5, (1, 1, 0)), OnBorder(1, 5, (1, 4)))

    def test_many_entrances(self):
        borders = edges = 0
        for box in BOXES[:6]:
            for slope in SLOPES[:5] + [(1, 0)]:
                lanes = lanes_of(box, slope)
                for where, face, direction in entrances(box, slope, 2)[2::7]:
                    if len(faces_with(box.sides, point(where))) == 3:
                        continue
                    edges += len(faces_with(box.sides, point(where))) == 2
                    found = lane_at(box, where, face, direction)
                    if corner_ahead(box, where, face, direction) is None:
                        strip = strips_of(found.lane)[found.strip]
                        self.assertIn(found.lane, lanes.lanes)
                        self.assertEqual((strip.face, strip.direction), (face, direction))
                        side = number(sideways(face, direction, where))
                        self.assertEqual(number(found.offset), side - strip.low)
                        self.assertTrue(strip.low < side < strip.high)
                        self.assertTrue(only_tuples(found.offset))
                    else:
                        borders += 1
                        self.assertIs(found.__class__, OnBorder)
                        told = reached(box, found.corner, found.face, slope, number(found.gone))
                        self.assertEqual(told, (point(where), face, direction))
                        self.assertIn(found.face, faces_of_corner(found.corner))
        self.assertGreater(borders, 50)
        self.assertGreater(edges, 300)

    def test_from_each_of_the_corners(self):
        for box in (CUBE, BOX, Box((4, 4, 7))):
            for slope in SLOPES:
                for corner in range(8):
                    for first in faces_of_corner(corner):
                        self.check_way(box, slope, corner, first)

    def check_way(self, box, slope, corner, first):
        start = point(place_of_corner(box, corner))
        rows = traced(box.sides, start, first, corner_direction(corner, first, slope), 10 ** 4)
        for index in {0, 1, 2, len(rows) - 1} & set(range(len(rows))):
            face, direction, begin, _, length = rows[index]
            gone = sum(row[4] for row in rows[:index])
            for part in (Fraction(0), Fraction(1, 3)):
                where = tuple(one + part * length * step for one, step in zip(begin, direction))
                if where != start:
                    told = OnBorder(corner, first, ratio(gone + part * length))
                    self.assertEqual(lane_at(box, place(*where), face, direction), told)

    def test_errors_in_order(self):
        good = place(1, 1, 0)
        refused(self, BadPlace, {"place": (1, 2)}, lane_at, BOX, (1, 2), 6, None)
        for face in NO_NUMBERS + [6]:
            refused(self, BadFace, {"face": face}, lane_at, BOX, good, face, None)
        refused(self, BadDirection, {"what": "kind"}, lane_at, BOX, good, 5, (1, True, 0))
        refused(self, BadDirection, {"what": "common"}, lane_at, BOX, good, 5, (22, 22, 0))
        refused(self, BadStart, {"what": "face"}, lane_at, BOX, good, 5, (11, 1, 0))
        refused(self, BadStart, {"what": "corner"}, lane_at, BOX, place(0, 0, 0), 4, (1, 1, 0))
        refused(self, BadStart, {"what": "corner"}, lane_at, BOX, place(0, 0, 0), 4, (-11, 1, 0))
        refused(self, BadStart, {"what": "along"}, lane_at, BOX, place(0, 1, 0), 4, (0, 1, 0))
        refused(self, BadStart, {"what": "out"}, lane_at, BOX, place(0, 1, 0), 4, (-11, 1, 0))
        refused(self, BadSlope, {"slope": (10, 1)}, lane_at, BOX, good, 4, (1, 10, 0))
        refused(self, BadSlope, {"slope": (10, 3)}, lane_at, BOX, good, 4, (10, -3, 0))
        self.assertEqual(lane_at(BOX, good, 4, (0, 1, 0)).lane.slope, (1, 0))

    def test_too_many_but_not_on_a_border(self):
        many = borders = 0
        for where, face, direction in entrances(BEYOND, (5, 9), 2)[::29]:
            if len(faces_with(BEYOND.sides, point(where))) == 3:
                continue
            try:
                found = lane_at(BEYOND, where, face, direction)
                borders += isinstance(found, OnBorder)
                if isinstance(found, Where):
                    self.assertEqual(len(found.lane.faces), 158)
            except TooMany as caught:
                self.assertEqual(vars(caught), {"most": 400})
                self.assertIsNone(corner_ahead(BEYOND, where, face, direction))
                self.assertGreater(len(ribbon_of(BEYOND, where, face, direction)), 400)
                many += 1
        self.assertGreater(many, 30)
        self.assertGreater(borders, 30)

    def test_results(self):
        check_result(self, Where, ["lane", "strip", "offset"])
        check_result(self, OnBorder, ["corner", "face", "gone"])
        self.assertTrue(Where(1, 2, 3) != OnBorder(1, 2, 3))

    def test_led_along(self):
        for where, face, direction in entrances(BOX, (2, 1), 2)[1::191]:
            if len(faces_with(BOX.sides, point(where))) == 3:
                continue
            found = lane_at(BOX, where, face, direction)
            for how in all_hows()[::5]:
                led = lane_at(
                    led_box(BOX, how), led_place(BOX, where, how), led_face(face, how),
                    led_direction(face, direction, how),
                )
                self.assertIs(led.__class__, found.__class__)
                if isinstance(found, OnBorder):
                    self.assertEqual((led.face, led.gone), (led_face(found.face, how), found.gone))
                else:
                    self.assertEqual((led.lane.length, led.lane.breadth), (found.lane.length, found.lane.breadth))
                    offset = number(found.offset)
                    told = offset if keeps_sense(how) else found.lane.breadth - offset
                    self.assertEqual(number(led.offset), told)
            larger = lane_at(scaled_box(BOX, 3), scaled_place(BOX, where, 3), face, direction)
            if isinstance(found, Where):
                self.assertEqual(number(larger.offset), 3 * number(found.offset))
                self.assertEqual((larger.strip, larger.lane.faces), (found.strip, found.lane.faces))
            else:
                told = OnBorder(found.corner, found.face, ratio(3 * number(found.gone)))
                self.assertEqual(larger, told)


class LanesThrough(unittest.TestCase):
    def test_inside_a_face(self):
        lesser = 0
        for lanes in some_lanes()[::4]:
            box = lanes.box
            for where, face, _ in entrances(box, lanes.slope, 3)[5::223]:
                if len(faces_with(box.sides, point(where))) != 1:
                    continue
                told = []
                for way in directions_on(face, lanes.slope):
                    found = lane_at(box, where, face, way)
                    if isinstance(found, Where):
                        told.append((lanes.number_of(found.lane), found.strip, found.offset))
                found = lanes_through(lanes, face, as_lists(where))
                self.assertEqual(found, tuple(sorted(told)))
                self.assertTrue(only_tuples(found))
                lesser += len(found) < 4
        self.assertGreater(lesser, 5)

    def test_on_edges(self):
        """The strips that come in or go out there: those of the rays and of the rays gone backwards."""
        for lanes in some_lanes()[::11]:
            box, told = lanes.box, {}
            for where, face, direction in entrances(box, lanes.slope, 2):
                faces = faces_with(box.sides, point(where))
                if len(faces) == 2:
                    held = told.setdefault((where, face), [])
                    found = lane_at(box, where, face, direction)
                    if isinstance(found, Where):
                        held.append((lanes.number_of(found.lane), found.strip, found.offset))
                        twin = twin_of(found.lane)
                        low = -strips_of(found.lane)[found.strip].high
                        back = Strip(face, tuple(-step for step in direction), low, low + twin.breadth)
                        offset = ratio(twin.breadth - number(found.offset))
                        held.append((lanes.number_of(twin), strips_of(twin).index(back), offset))
            for (where, face), held in list(told.items())[::3]:
                self.assertEqual(lanes_through(lanes, face, where), tuple(sorted(held)))

    def test_at_corners(self):
        for lanes in some_lanes()[::7]:
            for corner in range(8):
                for face in faces_of_corner(corner):
                    self.assertEqual(lanes_through(lanes, face, place_of_corner(lanes.box, corner)), ())

    def test_made_by_hand(self):
        lanes = lanes_of(BOX, (3, 2))
        held = by_hand(lanes)
        for where, face in ((place(1, "1/2", 5), 5), (place("2/3", 3, 1), 3), (place(2, "1/2", 5), 1)):
            told = []
            for index, strip, offset in lanes_through(lanes, face, where):
                at = strips_of(lanes.lanes[index])[strip]
                mate = len(lanes) - 1 - index
                told.append((mate, strips_of(held.lanes[mate]).index(at), offset))
            self.assertEqual(lanes_through(held, face, where), tuple(sorted(told)))
            self.assertGreater(len(told), 1)

    def test_refused_in_order(self):
        lanes = lanes_of(BOX, (2, 1))
        for face in NO_NUMBERS + [-1, 6]:
            refused(self, BadFace, {"face": face}, lanes_through, lanes, face, None)
        for where in (None, (1, 2, 3), place(1, 1, 1), place(1, 1)):
            refused(self, BadPlace, {"place": where}, lanes_through, lanes, 5, where)
        refused(self, BadStart, {"what": "face"}, lanes_through, lanes, 5, place(1, 1, 0))
        refused(self, BadStart, {"what": "face"}, lanes_through, lanes, 5, place(0, 0, 0))


class RibbonsInLanes(unittest.TestCase):
    def test_ribbon_in(self):
        for lanes in some_lanes()[::3]:
            for lane in lanes:
                for begun in (lane, taut_row(lanes.box, begun_row(lane.faces, 2))):
                    for offset in ((1, 3), (1, 1000), (1000 * lane.breadth - 1, 1000)):
                        ribbon = ribbon_in(begun, list(offset))
                        first = ribbon.passes[0]
                        self.assertEqual((first.face, first.direction), (begun.faces[0], begun.direction))
                        side = number(sideways(first.face, first.direction, first.start))
                        self.assertEqual(side, begun.low + number(offset))
                        self.assertEqual(ribbon.faces, begun.faces)
                        starts = [(p.start, p.face, p.direction) for p in ribbon]
                        self.assertEqual(starts, [row[1] for row in entrances_in(begun, offset)])
                    self.assertEqual(ribbon, ribbon_of(lanes.box, *starts[0]))
                    self.assertEqual(ribbon.slope, lanes.slope)

    def test_middle(self):
        for lanes in some_lanes()[::4]:
            for lane in lanes:
                half = ratio(Fraction(lane.breadth, 2))
                self.assertEqual(middle_ribbon(lane), ribbon_in(lane, half))
                self.assertEqual(offset_of(middle_ribbon(lane)), half)

    def test_offsets_refused(self):
        lane = lanes_of(BOX, (2, 1)).lanes[0]
        offsets = NO_NUMBERS + [(0, 1), (-1, 2), (lane.breadth, 1), (2, 4), (1, 1001), (True, 2), (1, 2, 3), (1, 0)]
        for offset in offsets:
            refused(self, BadOffset, {"offset": offset}, ribbon_in, lane, offset)
        self.assertIsInstance(ribbon_in(lane, (1, 1000)), Ribbon)

    def test_they_undo_each_other(self):
        for lanes in some_lanes()[::3]:
            for lane in lanes:
                for offset in ((1, 3), (1, 1000), (1000 * lane.breadth - 1, 1000)):
                    ribbon = ribbon_in(lane, offset)
                    for index in (0, 1, len(ribbon) - 1):
                        begun = ribbon_begun(ribbon, index)
                        self.assertEqual(lane_of(begun), lane)
                        self.assertEqual(offset_of(begun), offset)
                        back = back_ribbon(begun)
                        self.assertEqual(lane_of(back), twin_of(lane))
                        self.assertEqual(number(offset_of(back)), lane.breadth - number(offset))

    def test_where_each_pass_lies(self):
        lane = lanes_of(BOX, (3, 2)).lanes[1]
        ribbon = ribbon_in(lane, (2, 7))
        for index, taken in enumerate(ribbon):
            found = lane_at(BOX, taken.start, taken.face, taken.direction)
            self.assertEqual(found, Where(lane, index, (2, 7)))

    def test_steep_ones(self):
        lane = lane_of_strip(CUBE, Strip(5, (11, 10, 0), 0, 1))
        _, (where, face, direction) = entrances_in(lane, (1, 3))[4]
        ribbon = ribbon_of(CUBE, where, face, direction)
        self.assertEqual((lane_of(ribbon), offset_of(ribbon)), (lane, (1, 3)))

    def test_aside(self):
        for lanes in some_lanes()[::5]:
            for index, lane in enumerate(lanes):
                one, other = ribbon_in(lane, (1, 3)), ribbon_begun(ribbon_in(lane, (3, 4)), 3)
                self.assertEqual(aside(one, other), (5, 12))
                self.assertEqual(aside(other, one), (-5, 12))
                self.assertEqual(aside(one, one), (0, 1))
                self.assertEqual(aside(back_ribbon(one), back_ribbon(other)), (-5, 12))
                for mate in (back_ribbon(one), middle_ribbon(lanes.lanes[index ^ 1]), middle_ribbon(lanes.lanes[-1])):
                    if lane_of(mate) != lane:
                        refused(self, OtherLane, {"ribbon": mate}, aside, one, mate)

    def test_aside_on_another_box_or_slope(self):
        one = middle_ribbon(lanes_of(CUBE, (1, 1)).lanes[0])
        larger = middle_ribbon(lanes_of(Box((2, 2, 2)), (1, 1)).lanes[0])
        self.assertEqual(larger.faces, one.faces)
        band = middle_ribbon(lanes_of(CUBE, (1, 0)).lanes[0])
        for mate in (larger, band):
            refused(self, OtherLane, {"ribbon": mate}, aside, one, mate)

    def test_more_than_four_hundred_passes(self):
        rows = [row for row in entrances(BEYOND, (5, 9), 2) if len(faces_with(BEYOND.sides, point(row[0]))) == 1]
        ribbons = [ribbon_of(BEYOND, *row) for row in rows[::97]]
        long = [ribbon for ribbon in ribbons if isinstance(ribbon, Ribbon) and len(ribbon) > 400][0]
        short = middle_ribbon(lanes_of(CUBE, (1, 1)).lanes[0])
        for call in (lane_of, offset_of):
            refused(self, TooMany, {"most": 400}, call, long)
        for couple in ((long, short), (short, long), (long, long)):
            refused(self, TooMany, {"most": 400}, aside, *couple)
        full = ribbon_in(lanes_of(Box((9, 7, 9)), (9, 7)).lanes[5], (1, 2))
        self.assertEqual((len(full), offset_of(full)), (400, (1, 2)))


if __name__ == "__main__":
    unittest.main()
