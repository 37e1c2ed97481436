import unittest

from helping import BOXES, NO_NUMBERS, SLOPES, as_lists, check_result, only_tuples, refused
from test_lanes import some_lanes
from tautparcel.along import all_hows, keeps_sense, led_box, led_corner, led_face, led_slope, scaled_box
from tautparcel.boxes import Box, faces_of_corner
from tautparcel.borders import (
    Border, all_borders, border_fault, border_of, twin_border, way_after, way_before,
)
from tautparcel.cornerways import all_corner_ways, back_way, corner_way, faces_round
from tautparcel.errors import BadSide, BadSlope
from tautparcel.lanes import lanes_of
from tautparcel.taut import slide_of

CUBE = Box((1, 1, 1))
BOX = Box((2, 3, 5))
SIDES = ("left", "right")
NO_SIDES = NO_NUMBERS + ["Left", "", "middle", 0, 1, ("left",), ["right"]]
WRONG_SLOPES = [(1, 0), (0, 1), (2, 2), (10, 1), None, (True, 1), "11"]
CASES = [(box, slope) for box in BOXES for slope in SLOPES]


def passed_corners(rows, many):
    """The corners of couples (gate, corner), in order; each passed corner has two neighbouring gates, read round."""
    if (rows[0][0] + 1) % many != rows[1][0] % many or rows[0][1] != rows[1][1]:
        rows = rows[1:] + rows[:1]
    for one, other in zip(rows[::2], rows[1::2]):
        assert one[1] == other[1] and (one[0] + 1) % many == other[0] % many
    return [row[1] for row in rows[::2]]


def all_begun(things):
    return [tuple(things[index:]) + tuple(things[:index]) for index in range(len(things))]


class Steps(unittest.TestCase):
    def test_faces_in_their_order(self):
        for box, slope in CASES[::3]:
            for way in all_corner_ways(box, slope):
                faces = faces_round(way.finish)
                at = faces.index(way.last)
                left, right = way_after(way, "left"), way_after(way, "right")
                self.assertEqual(left, corner_way(box, way.finish, faces[(at + 1) % 3], slope))
                self.assertEqual(right, corner_way(box, way.finish, faces[(at + 2) % 3], slope))

    def test_example(self):
        # From corner 0 over face 4 to corner 6, whose faces are 1, 4, 3 counterclockwise.
        way = corner_way(Box((1, 1, 2)), 0, 4, (1, 1))
        self.assertEqual((way.finish, way.last, faces_round(6)), (6, 4, (1, 4, 3)))
        self.assertEqual((way_after(way, "left").key, way_after(way, "right").key), ((6, 3), (6, 1)))

    def test_they_undo_each_other(self):
        for box, slope in CASES:
            for way in all_corner_ways(box, slope):
                for side in SIDES:
                    self.assertEqual(way_before(way_after(way, side), side), way)
                    self.assertEqual(way_after(way_before(way, side), side), way)

    def test_sides_refused(self):
        way = corner_way(BOX, 0, 4, (2, 1))
        for side in NO_SIDES:
            for call in (way_after, way_before, border_of):
                refused(self, BadSide, {"side": side}, call, way, side)


class Borders(unittest.TestCase):
    def test_each_way_in_exactly_one(self):
        for box, slope in CASES:
            keys = [way.key for way in all_corner_ways(box, slope)]
            for side in SIDES:
                borders = all_borders(box, list(slope), side)
                self.assertIs(type(borders), tuple)
                told = [way.key for border in borders for way in border.ways]
                self.assertEqual(sorted(told), keys)
                first = [border.ways[0].key for border in borders]
                self.assertEqual(first, sorted(first))
                for border in borders:
                    self.assertEqual(border.side, side)
                    self.assertTrue(only_tuples(border.ways))
                    self.assertEqual(border.ways[0].key, min(way.key for way in border.ways))
                    self.assertEqual(border.length, sum(way.length for way in border.ways))
                    for one, other in zip(border.ways, border.ways[1:] + border.ways[:1]):
                        self.assertEqual(way_after(one, side), other)
                        self.assertEqual(border_of(one, side), border)

    def test_as_many_as_lanes_and_as_long(self):
        for lanes in some_lanes():
            if lanes.slope != (1, 0):
                for side in SIDES:
                    borders = all_borders(lanes.box, lanes.slope, side)
                    self.assertEqual(len(borders), len(lanes))
                    lengths = sorted(border.length for border in borders)
                    self.assertEqual(lengths, sorted(lane.length for lane in lanes))

    def test_as_many_left_as_right_ones(self):
        """Also where lanes have too many faces to be told."""
        for sides, slope in (((9, 8, 3), (5, 9)), ((60, 59, 58), (9, 8)), ((4, 4, 7), (5, 4))):
            left, right = [all_borders(Box(sides), slope, side) for side in SIDES]
            self.assertEqual(len(left), len(right))
            self.assertEqual(sorted(b.length for b in left), sorted(b.length for b in right))
            self.assertEqual(len(left) % 2, 0)

    def test_corners_that_the_lanes_pass(self):
        for lanes in some_lanes():
            if lanes.slope != (1, 0):
                for side, word in (("left", "right"), ("right", "left")):
                    told = []
                    for lane in lanes:
                        rows = list(getattr(slide_of(lane), word))
                        told.append(min(all_begun(passed_corners(rows, len(lane.faces)))))
                    found = []
                    for border in all_borders(lanes.box, lanes.slope, side):
                        found.append(min(all_begun([way.start for way in border.ways])))
                    self.assertEqual(sorted(found), sorted(told))

    def test_twins(self):
        for box, slope in CASES:
            for side, other in (SIDES, SIDES[::-1]):
                borders = all_borders(box, slope, other)
                for border in all_borders(box, slope, side):
                    twin = twin_border(border)
                    self.assertIn(twin, borders)
                    self.assertEqual((twin.side, twin.length), (other, border.length))
                    keys = [way.key for way in twin.ways]
                    self.assertEqual(keys[0], min(keys))
                    self.assertIn(tuple(keys), all_begun([back_way(way).key for way in border.ways][::-1]))
                    self.assertEqual(twin_border(twin), border)

    def test_led_along(self):
        """A mirror exchanges the sides; on a scaled box the borders are as many times as long."""
        for slope in ((2, 1), (2, 3)):
            for how in all_hows()[::5]:
                for side, other in (SIDES, SIDES[::-1]):
                    led = all_borders(led_box(BOX, how), led_slope(slope, how), side if keeps_sense(how) else other)
                    found = {frozenset(way.key for way in border.ways): border.length for border in led}
                    told = {}
                    for border in all_borders(BOX, slope, side):
                        keys = [(led_corner(way.start, how), led_face(way.face, how)) for way in border.ways]
                        told[frozenset(keys)] = border.length
                    self.assertEqual(found, told)
            for border, larger in zip(all_borders(BOX, slope, "left"), all_borders(scaled_box(BOX, 4), slope, "left")):
                self.assertEqual(larger.length, 4 * border.length)
                self.assertEqual([way.key for way in larger.ways], [way.key for way in border.ways])

    def test_it_is_a_result(self):
        check_result(self, Border, ["side", "ways", "length"])

    def test_refused_in_order(self):
        for slope in WRONG_SLOPES:
            refused(self, BadSlope, {"slope": slope}, all_borders, BOX, slope, "middle")
            refused(self, BadSlope, {"slope": slope}, border_fault, BOX, slope, "middle", None)
        for side in NO_SIDES:
            refused(self, BadSide, {"side": side}, all_borders, BOX, (2, 1), side)
            refused(self, BadSide, {"side": side}, border_fault, BOX, (2, 1), side, None)


class Fault(unittest.TestCase):
    def test_right_ones_from_any_beginning(self):
        for box, slope in CASES[::5]:
            for side in SIDES:
                for border in all_borders(box, slope, side):
                    for keys in all_begun([way.key for way in border.ways]):
                        self.assertIsNone(border_fault(box, slope, side, keys))
                        self.assertIsNone(border_fault(box, list(slope), side, as_lists(keys)))

    def test_many(self):
        for keys in (None, 5, "ab", {}, (), [], [(0, 0)] * 25, ((9, 9),) * 25):
            self.assertEqual(border_fault(BOX, (2, 1), "left", keys), ("many", 0))

    def test_way(self):
        keys = [way.key for way in all_borders(BOX, (2, 1), "left")[0].ways]
        bad = NO_NUMBERS + [(0,), (0, 0, 0), (0, 1), (0, 5), (8, 1), (-1, 0), (7, 0), (True, 0), (0, False), (0, "0")]
        for item in bad:
            self.assertEqual(border_fault(BOX, (2, 1), "left", [item]), ("way", 0))
            self.assertEqual(border_fault(BOX, (2, 1), "left", [*keys, item, keys[0]]), ("way", len(keys)))
        for corner in range(8):
            for face in range(6):
                found = border_fault(BOX, (2, 1), "left", ((corner, face),))
                self.assertEqual(found == ("way", 0), face not in faces_of_corner(corner))

    def test_twice(self):
        keys = [way.key for way in all_borders(BOX, (2, 1), "right")[0].ways]
        self.assertEqual(border_fault(BOX, (2, 1), "right", keys + keys[:1]), ("twice", len(keys)))
        told = [list(keys[0]), (1, 5), keys[0], None]
        self.assertEqual(border_fault(BOX, (2, 1), "right", told), ("twice", 2))
        self.assertEqual(border_fault(BOX, (2, 1), "right", [(0, 0), (0, 0), (8, 8)]), ("twice", 1))
        self.assertEqual(border_fault(BOX, (2, 1), "right", [(0, 0), (8, 8), (0, 0)]), ("way", 1))

    def test_after(self):
        for box, slope in CASES[::5]:
            for side, other in (SIDES, SIDES[::-1]):
                for border in all_borders(box, slope, side):
                    keys = [way.key for way in border.ways]
                    if len(keys) > 2:
                        turned = [keys[1], keys[0], *keys[2:]]
                        self.assertEqual(border_fault(box, slope, side, turned), ("after", 0))
                        self.assertEqual(border_fault(box, slope, side, keys[:-1]), ("after", len(keys) - 2))
                        late = [*keys[:-2], keys[-1], keys[-2]]
                        self.assertEqual(border_fault(box, slope, side, late), ("after", len(keys) - 3))
                        self.assertEqual(border_fault(box, slope, side, keys[::-1])[0], "after")
                    self.assertEqual(border_fault(box, slope, other, keys), self.judged(box, slope, other, keys))

    def judged(self, box, slope, side, keys):
        for index, key in enumerate(keys):
            following = keys[(index + 1) % len(keys)]
            if way_after(corner_way(box, *key, slope), side).key != following:
                return ("after", index)
        return None

    def test_all_ways_of_one_border(self):
        borders = all_borders(CUBE, (1, 1), "left")
        self.assertEqual({len(border.ways) for border in borders}, {3})
        keys = [way.key for border in borders for way in border.ways]
        self.assertEqual(border_fault(CUBE, (1, 1), "left", keys), ("after", 2))
        self.assertEqual(len(lanes_of(CUBE, (1, 1))), len(borders))


if __name__ == "__main__":
    unittest.main()
