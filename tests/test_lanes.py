import unittest
from fractions import Fraction

from helping import (
    AXES, BOXES, NO_NUMBERS, SLOPES, as_lists, number, only_tuples, point, ratio, refused, traced,
)
from tautparcel.boxes import Box, faces_beside
from tautparcel.errors import BadDirection, BadFace, BadSlope, BadStrip, NoLane, TooMany
from tautparcel.facerows import back_row, begun_row, least_begun
from tautparcel.lanes import (
    Lanes, Split, Strip, check_strip, lane_of_strip, lanes_of, settled_lane, sideways_range, strip_after,
    strip_before, strips_of, twin_of,
)
from tautparcel.places import corner_number, place_of_corner, place_on
from tautparcel.slopes import back_of, directions_on, over_edge, outward_step, sideways
from tautparcel.taut import Lane, entrances_in, taut_row

CUBE = Box((1, 1, 1))
BOX = Box((2, 3, 5))
# On the first one all lanes of (9, 7) have 400 faces, on the second one some lanes of (5, 9) have 402, others 158.
FULL = Box((9, 7, 9))
BEYOND = Box((8, 9, 3))
KNOWN = []


def some_lanes():
    """Lanes of many boxes and slopes, made once."""
    if not KNOWN:
        for box in BOXES:
            for slope in SLOPES + [(1, 0)]:
                try:
                    KNOWN.append(lanes_of(box, slope))
                except TooMany:
                    pass
    return KNOWN


def values(strip):
    return (strip.face, strip.direction, strip.low, strip.high)


def unit_strips(box, slope):
    for face in range(6):
        for direction in directions_on(face, slope):
            low, high = sideways_range(box, face, direction)
            for side in range(low, high):
                yield Strip(face, direction, side, side + 1)


class Ranges(unittest.TestCase):
    def test_range(self):
        self.assertEqual(sideways_range(BOX, 5, [1, 1, 0]), (-2, 3))
        self.assertEqual(sideways_range(BOX, 5, (1, 0, 0)), (0, 3))
        self.assertEqual(sideways_range(BOX, 5, (-2, 7, 0)), (-20, 0))
        self.assertIs(type(sideways_range(BOX, 5, (1, 0, 0))), tuple)
        for box in BOXES:
            for face in range(6):
                for direction in directions_on(face, (3, 2)):
                    sides = []
                    for corner in range(8):
                        if (corner >> (2 - face // 2)) & 1 == face % 2:
                            sides.append(sideways(face, direction, place_of_corner(box, corner)))
                    low, high = min(sides)[0], max(sides)[0]
                    self.assertEqual(sideways_range(box, face, direction), (low, high))

    def test_range_refused(self):
        for face in NO_NUMBERS + [6]:
            refused(self, BadFace, {"face": face}, sideways_range, BOX, face, None)
        refused(self, BadDirection, {"what": "kind"}, sideways_range, BOX, 5, None)
        refused(self, BadDirection, {"what": "axis"}, sideways_range, BOX, 5, (0, 1, 1))
        refused(self, BadDirection, {"what": "kind"}, sideways_range, BOX, 5, (10001, 1, 0))

    def test_check_strip(self):
        for low, high in ((-2, 3), (-2, -1), (2, 3), (0, 1)):
            found = check_strip(BOX, Strip(5, [1, 1, 0], low, high))
            self.assertEqual(found, Strip(5, (1, 1, 0), low, high))
            self.assertIs(type(found.direction), tuple)
        given = Strip(5, [1, 1, 0], 0, 1)
        check_strip(BOX, given)
        self.assertEqual(given.direction, [1, 1, 0])

    def test_strips_refused(self):
        for call in (check_strip, strip_after, strip_before, lane_of_strip):
            for face in NO_NUMBERS + [6]:
                refused(self, BadFace, {"face": face}, call, BOX, Strip(face, None, None, None))
            refused(self, BadDirection, {"what": "both"}, call, BOX, Strip(5, (0, 0, 0), None, None))
            refused(self, BadDirection, {"what": "common"}, call, BOX, Strip(5, (2, 2, 0), None, None))
            for low in NO_NUMBERS + [-3, 3, 4]:
                refused(self, BadStrip, {"what": "low"}, call, BOX, Strip(5, (1, 1, 0), low, None))
            for high in NO_NUMBERS + [0, -1, 4]:
                refused(self, BadStrip, {"what": "high"}, call, BOX, Strip(5, (1, 1, 0), 0, high))

    def test_results(self):
        made = Strip(None, [1], "a", 2)
        self.assertEqual(list(vars(made).items()), [("face", None), ("direction", [1]), ("low", "a"), ("high", 2)])
        self.assertTrue(made == Strip(None, [1], "a", 2))
        for other in (Strip(1, [1], "a", 2), Strip(None, 1, "a", 2), Strip(None, [1], 1, 2), Strip(None, [1], "a", 1)):
            self.assertTrue(made != other)
        self.assertIs(made == 5, False)
        self.assertEqual(vars(Split([3])), {"corner": [3]})
        self.assertTrue(Split(3) == Split(3))
        self.assertTrue(Split(3) != Split(4))
        self.assertIs(Split(3) == 3, False)


class Steps(unittest.TestCase):
    def test_split(self):
        self.assertEqual(strip_after(BOX, Strip(5, [1, 1, 0], -2, 3)), Split(7))
        self.assertEqual(strip_after(BOX, Strip(5, (1, 1, 0), 0, 2)), Split(7))
        self.assertEqual(strip_after(BOX, Strip(5, (1, 1, 0), 1, 3)), Strip(3, (1, 0, -1), -7, -5))
        self.assertEqual(strip_after(BOX, Strip(5, (1, 1, 0), -2, 1)), Strip(1, (0, 1, -1), 5, 8))
        self.assertEqual(strip_before(BOX, Strip(5, (1, 1, 0), -1, 1)), Split(1))
        self.assertIsInstance(strip_before(BOX, Strip(5, (1, 1, 0), 0, 3)), Strip)
        self.assertEqual(strip_after(BOX, Strip(5, (1, 0, 0), 0, 3)).face, 1)
        self.assertEqual(strip_before(BOX, Strip(5, (1, 0, 0), 0, 3)).face, 0)

    def test_every_strip(self):
        """All strips of small boxes, judged by the edges over which the direction leaves."""
        for box in (CUBE, Box((1, 2, 3))):
            for slope in ((1, 1), (2, 1), (1, 0)):
                for face in range(6):
                    for direction in directions_on(face, slope):
                        low, high = sideways_range(box, face, direction)
                        for one in range(low, high):
                            for other in range(one + 1, high + 1):
                                self.check_after(box, Strip(face, direction, one, other))

    def check_after(self, box, strip):
        left_over = [f for f in faces_beside(strip.face) if outward_step(f, strip.direction) > 0]
        found = strip_after(box, strip)
        if len(left_over) == 2:
            where = [None, None, None]
            for face in (strip.face, *left_over):
                where[face // 2] = (box.sides[face // 2] * (face % 2), 1)
            split = sideways(strip.face, strip.direction, where)[0]
            if strip.low < split < strip.high:
                self.assertEqual(found, Split(corner_number(box, where)))
                return
        self.assertEqual(found.high - found.low, strip.high - strip.low)
        self.assertIn(found.face, left_over)
        self.assertEqual(found.direction, over_edge(strip.face, found.face, strip.direction))
        self.assertEqual(strip_before(box, found), strip)

    def test_they_undo_each_other(self):
        for box in BOXES:
            for slope in SLOPES[:5] + [(1, 0)]:
                for strip in list(unit_strips(box, slope))[::3]:
                    after, before = strip_after(box, strip), strip_before(box, strip)
                    self.assertEqual(strip_before(box, after), strip)
                    self.assertEqual(strip_after(box, before), strip)

    def test_backwards(self):
        for strip in list(unit_strips(BOX, (2, 1))):
            greatest = sideways_range(BOX, strip.face, strip.direction)[1]
            wide = Strip(strip.face, strip.direction, strip.low, min(strip.high + 2, greatest))
            turned = Strip(wide.face, back_of(wide.face, wide.direction), -wide.high, -wide.low)
            before, after = strip_before(BOX, wide), strip_after(BOX, turned)
            if isinstance(before, Split):
                self.assertEqual(before, after)
            else:
                back = back_of(after.face, after.direction)
                self.assertEqual(values(before), (after.face, back, -after.high, -after.low))

    def test_the_same_rays(self):
        for lanes in some_lanes()[::5]:
            for strip in list(unit_strips(lanes.box, lanes.slope))[::17]:
                first, second = AXES[strip.face]
                box, direction = lanes.box, strip.direction
                middle = Fraction(strip.low + strip.high, 2)
                # A place of the face with this side: along the line, at the middle of its piece on the face.
                square = direction[first] ** 2 + direction[second] ** 2
                foot = (-middle * direction[second] / square, middle * direction[first] / square)
                spans = []
                for value, axis in zip(foot, (first, second)):
                    step = Fraction(direction[axis])
                    if step:
                        spans.append(sorted(((0 - value) / step, (box.sides[axis] - value) / step)))
                gone = (max(span[0] for span in spans) + min(span[1] for span in spans)) / 2
                there = [value + gone * direction[axis] for value, axis in zip(foot, (first, second))]
                where = place_on(box, strip.face, ratio(there[0]), ratio(there[1]))
                rows = traced(box.sides, point(where), strip.face, direction, 2)
                after = strip_after(box, strip)
                self.assertEqual((after.face, after.direction), rows[1][:2])
                side = number(sideways(after.face, after.direction, [ratio(value) for value in rows[1][2]]))
                self.assertEqual(side, Fraction(after.low + after.high, 2))


class StripsOf(unittest.TestCase):
    def test_example(self):
        lanes = lanes_of(CUBE, (1, 1))
        self.assertEqual(len(lanes), 8)
        self.assertEqual({(lane.length, lane.breadth) for lane in lanes}, {(3, 1)})
        lane = lanes.lanes[2]
        self.assertEqual((lane.faces, lane.direction, lane.low), ((0, 2, 5, 1, 3, 4), (0, -1, 1), 0))
        self.assertEqual([(s.low, s.high) for s in strips_of(lane)], [(0, 1), (0, 1), (-1, 0), (1, 2), (-1, 0), (0, 1)])
        twin = lanes.lanes[3]
        self.assertEqual((twin.faces, twin.direction, twin.low), ((0, 4, 3, 1, 5, 2), (0, 1, -1), -1))

    def test_each_behind_the_one_before(self):
        for lanes in some_lanes():
            for lane in lanes:
                strips = strips_of(lane)
                self.assertIs(type(strips), tuple)
                self.assertEqual([strip.face for strip in strips], list(lane.faces))
                self.assertEqual(values(strips[0]), (lane.faces[0], lane.direction, lane.low, lane.low + lane.breadth))
                self.assertEqual(len({values(strip) for strip in strips}), len(strips))
                for index, strip in enumerate(strips[:40]):
                    self.assertEqual(strip_after(lanes.box, strip), strips[(index + 1) % len(strips)])
                self.assertEqual(strip_after(lanes.box, strips[-1]), strips[0])

    def test_no_broader_ones(self):
        for lanes in some_lanes()[::3]:
            for lane in lanes:
                right = left = False
                for strip in strips_of(lane):
                    for corner in range(8):
                        where = place_of_corner(lanes.box, corner)
                        if (corner >> (2 - strip.face // 2)) & 1 == strip.face % 2:
                            side = sideways(strip.face, strip.direction, where)[0]
                            right = right or side == strip.low
                            left = left or side == strip.high
                            self.assertFalse(strip.low < side < strip.high)
                self.assertTrue(right and left)

    def test_entrances_lie_in_the_strips(self):
        for lanes in some_lanes()[::4]:
            for lane in lanes:
                offset = (lane.breadth * 500 + 1, 1000) if lane.breadth % 2 else (1, 3)
                for strip, (_, (where, face, direction)) in zip(strips_of(lane), entrances_in(lane, offset)):
                    self.assertEqual((face, direction), (strip.face, strip.direction))
                    self.assertEqual(number(sideways(face, direction, where)), strip.low + number(offset))

    def test_begun_anywhere(self):
        for lanes in some_lanes()[::4]:
            for lane in lanes:
                strips = strips_of(lane)
                for index in (1, len(lane.faces) - 1):
                    begun = taut_row(lanes.box, begun_row(lane.faces, index))
                    self.assertEqual(strips_of(begun), strips[index:] + strips[:index])
                    self.assertEqual(settled_lane(begun), lane)
                    self.assertEqual(twin_of(begun), twin_of(lane))
                    self.assertEqual(lanes.number_of(begun), lanes.number_of(lane))

    def test_settled(self):
        lane = taut_row(CUBE, (5, 1, 3, 4, 0, 2))
        self.assertEqual(settled_lane(lane), Lane(CUBE, (0, 2, 5, 1, 3, 4), (0, -1, 1), 0, 3, 1))
        self.assertEqual(settled_lane(settled_lane(lane)), settled_lane(lane))

    def test_twins(self):
        for lanes in some_lanes():
            for lane in lanes:
                twin = twin_of(lane)
                self.assertEqual((twin.length, twin.breadth, twin.slope), (lane.length, lane.breadth, lane.slope))
                self.assertEqual(twin.faces, least_begun(back_row(lane.faces)))
                self.assertTrue(twin != lane)
                self.assertEqual(twin_of(twin), lane)
                told = {(s.face, back_of(s.face, s.direction), -s.high, -s.low) for s in strips_of(lane)}
                self.assertEqual({values(strip) for strip in strips_of(twin)}, told)


class AllLanes(unittest.TestCase):
    def test_fill_every_range(self):
        for lanes in some_lanes():
            strips = {}
            for lane in lanes:
                for strip in strips_of(lane):
                    strips.setdefault((strip.face, strip.direction), []).append((strip.low, strip.high))
            for face in range(6):
                for direction in directions_on(face, lanes.slope):
                    low, high = sideways_range(lanes.box, face, direction)
                    for first, last in sorted(strips[(face, direction)]):
                        self.assertEqual(first, low)
                        low = last
                    self.assertEqual(low, high)

    def test_order_and_twins(self):
        for lanes in some_lanes():
            self.assertEqual(list(lanes), sorted(lanes, key=lambda lane: (lane.row, lane.faces)))
            for number, lane in enumerate(lanes):
                self.assertEqual(lane, taut_row(lanes.box, lane.faces))
                self.assertEqual(lane.faces, least_begun(lane.faces))
                self.assertEqual(twin_of(lane), lanes.lanes[number ^ 1])
                self.assertEqual(lane.faces == lane.row, number % 2 == 0)
                self.assertEqual((lane.box, lane.slope), (lanes.box, lanes.slope))

    def test_how_many(self):
        for lanes in some_lanes():
            self.assertTrue(2 <= len(lanes) <= 16)
            self.assertEqual(len(lanes) % 2, 0)
            if lanes.slope == (1, 0):
                self.assertEqual(len(lanes), 6)
            area = sum(lane.length * lane.breadth for lane in lanes)
            self.assertEqual(area, 4 * lanes.box.skin_area)
        self.assertEqual(len(lanes_of(Box((1, 1, 2)), (1, 1))), 4)

    def test_lists_too(self):
        self.assertEqual(lanes_of(BOX, [2, 1]), lanes_of(BOX, (2, 1)))
        self.assertTrue(only_tuples((lanes_of(BOX, [2, 1]).lanes, lanes_of(BOX, [2, 1]).slope)))
        self.assertEqual(lanes_of(BOX, [1, 0]).slope, (1, 0))

    def test_refused(self):
        for slope in ((0, 1), (2, 2), (10, 1), None, (True, 1), (1, False), "11"):
            refused(self, BadSlope, {"slope": slope}, lanes_of, BOX, slope)

    def test_four_hundred_faces(self):
        lanes = lanes_of(FULL, (9, 7))
        self.assertEqual({len(lane.faces) for lane in lanes}, {400})
        self.assertEqual(lane_of_strip(FULL, strips_of(lanes.lanes[3])[77]), lanes.lanes[3])

    def test_too_many(self):
        refused(self, TooMany, {"most": 400}, lanes_of, BEYOND, (5, 9))
        told = {}
        for strip in list(unit_strips(BEYOND, (5, 9)))[::3]:
            try:
                told[len(lane_of_strip(BEYOND, strip).faces)] = strip
            except TooMany as caught:
                self.assertEqual(vars(caught), {"most": 400})
                told["many"] = strip
        self.assertEqual(sorted(told, key=str), [158, "many"])
        # A broad strip that begins in a lane of too many faces is refused by TooMany, too.
        least, greatest = sideways_range(BEYOND, told["many"].face, told["many"].direction)
        broad = Strip(told["many"].face, told["many"].direction, told["many"].low, greatest)
        refused(self, TooMany, {"most": 400}, lane_of_strip, BEYOND, broad)


class LaneOfStrip(unittest.TestCase):
    def test_held_by_exactly_one(self):
        for lanes in some_lanes()[::4]:
            held = {}
            for index, lane in enumerate(lanes):
                for strip in strips_of(lane):
                    for low in range(strip.low, strip.high):
                        held.setdefault((strip.face, strip.direction, low), []).append(index)
            for strip in list(unit_strips(lanes.box, lanes.slope))[::5]:
                numbers = held[(strip.face, strip.direction, strip.low)]
                self.assertEqual(len(numbers), 1)
                given = Strip(strip.face, list(strip.direction), strip.low, strip.high)
                self.assertEqual(lane_of_strip(lanes.box, given), lanes.lanes[numbers[0]])

    def test_broader(self):
        for lanes in some_lanes()[::4]:
            for lane in lanes:
                strip = strips_of(lane)[1]
                self.assertEqual(lane_of_strip(lanes.box, strip), lane)
                least, greatest = sideways_range(lanes.box, strip.face, strip.direction)
                if strip.high < greatest:
                    broad = Strip(strip.face, list(strip.direction), strip.low, strip.high + 1)
                    told = {"thing": check_strip(lanes.box, broad)}
                    refused(self, NoLane, told, lane_of_strip, lanes.box, broad)
                if strip.low > least:
                    broad = Strip(strip.face, strip.direction, strip.low - 1, strip.high)
                    refused(self, NoLane, {"thing": broad}, lane_of_strip, lanes.box, broad)

    def test_directions_above_nine(self):
        lane = lane_of_strip(CUBE, Strip(5, (11, 10, 0), 0, 1))
        self.assertEqual(lane.slope, (11, 10))
        self.assertEqual(taut_row(CUBE, lane.faces), lane)
        refused(self, TooMany, {"most": 400}, lane_of_strip, CUBE, Strip(5, (9999, 10000, 0), 0, 1))


class ByHand(unittest.TestCase):
    def test_it_is_a_result(self):
        made = Lanes(None, [1], "ab")
        self.assertEqual(list(vars(made).items()), [("box", None), ("slope", [1]), ("lanes", "ab")])
        self.assertEqual((len(made), list(made)), (2, ["a", "b"]))
        self.assertTrue(made == Lanes(None, [1], "ab"))
        for other in (Lanes(1, [1], "ab"), Lanes(None, 1, "ab"), Lanes(None, [1], "a"), 5, "ab"):
            self.assertTrue(made != other)
        self.assertEqual((len(Lanes(BOX, (1, 1), ())), list(Lanes(BOX, (1, 1), ()))), (0, []))

    def test_number_of(self):
        lanes = lanes_of(BOX, (2, 1))
        for index, lane in enumerate(lanes):
            self.assertEqual(lanes.number_of(lane), index)
        order = [taut_row(BOX, begun_row(lane.faces, 3)) for lane in lanes][::-1]
        made = Lanes(BOX, (2, 1), tuple(order[:-1]))
        for index, lane in enumerate(order[:-1]):
            self.assertEqual(made.number_of(lane), index)
            self.assertEqual(made.number_of(settled_lane(lane)), index)
            self.assertEqual(made.number_of(taut_row(BOX, begun_row(lane.faces, 1))), index)
        refused(self, NoLane, {"thing": order[-1]}, made.number_of, order[-1])
        refused(self, NoLane, {"thing": order[0]}, Lanes(BOX, (2, 1), ()).number_of, order[0])
        other = lanes_of(Box((4, 6, 10)), (2, 1)).lanes[0]
        self.assertEqual(other.faces, lanes.lanes[0].faces)
        refused(self, NoLane, {"thing": other}, lanes.number_of, other)

    def test_methods_stand_in_the_class(self):
        for name in ("__init__", "__eq__", "__len__", "__iter__", "number_of"):
            self.assertIn(name, vars(Lanes))


if __name__ == "__main__":
    unittest.main()
