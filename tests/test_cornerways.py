import unittest
from fractions import Fraction

from helping import (
    ALL_SLOPES, AXES, BOXES, NO_NUMBERS, SLOPES, only_tuples, place, point, ratio, refused, traced, vector_out,
)
from tautparcel.boxes import Box, faces_of_corner
from tautparcel.cornerways import (
    CornerWay, all_corner_ways, back_way, corner_direction, corner_way, faces_round, shortest_ways, straight_between,
    way_places, ways_from,
)
from tautparcel.errors import BadCorner, BadFace, BadMost, BadSlope, NotAtCorner, TooMany
from tautparcel.lanes import lanes_of
from tautparcel.places import corner_number, place_of_corner
from tautparcel.rays import most_passes
from tautparcel.slopes import directions_on
from tautparcel.steps import check_entrance

LONG = Box((1, 1, 2))
BOX = Box((2, 3, 5))
WRONG_SLOPES = [(1, 0), (0, 1), (2, 2), (10, 1), None, (True, 1), "11"]


class Corners(unittest.TestCase):
    def test_faces_round(self):
        self.assertEqual(faces_round(7), (1, 3, 5))
        self.assertEqual(faces_round(0), (0, 4, 2))
        self.assertEqual(faces_round(4), (1, 2, 4))
        self.assertEqual(faces_round(6), (1, 4, 3))
        for corner in range(8):
            a, b, c = [vector_out(face) for face in faces_round(corner)]
            turn = sum(a[k] * (b[k - 2] * c[k - 1] - b[k - 1] * c[k - 2]) for k in range(3))
            self.assertEqual(turn, 1)
            self.assertIs(type(faces_round(corner)), tuple)
        for corner in NO_NUMBERS + [-1, 8]:
            refused(self, BadCorner, {"corner": corner}, faces_round, corner)

    def test_direction(self):
        self.assertEqual(corner_direction(0, 4, (1, 2)), (2, 1, 0))
        self.assertEqual(corner_direction(7, 5, [1, 2]), (-1, -2, 0))
        self.assertEqual(corner_direction(3, 5, (1, 2)), (2, -1, 0))
        self.assertIs(type(corner_direction(7, 5, [1, 2])), tuple)
        for corner in range(8):
            for face in faces_of_corner(corner):
                for slope in ALL_SLOPES:
                    inward = []
                    for direction in directions_on(face, slope):
                        ends = [(corner >> (2 - axis)) & 1 for axis in AXES[face]]
                        if all((direction[axis] < 0) == bool(end) for axis, end in zip(AXES[face], ends)):
                            inward.append(direction)
                    self.assertEqual([corner_direction(corner, face, slope)], inward)
                    check_entrance(BOX, place_of_corner(BOX, corner), face, inward[0])

    def test_refused_in_order(self):
        for first in ((), (BOX,)):
            call = corner_way if first else corner_direction
            for corner in NO_NUMBERS + [-1, 8]:
                refused(self, BadCorner, {"corner": corner}, call, *first, corner, 6, None)
            for face in NO_NUMBERS + [-1, 6]:
                refused(self, BadFace, {"face": face}, call, *first, 0, face, None)
            refused(self, NotAtCorner, {"corner": 0, "face": 5}, call, *first, 0, 5, None)
            refused(self, NotAtCorner, {"corner": 7, "face": 0}, call, *first, 7, 0, (1, 0))
            for slope in WRONG_SLOPES:
                refused(self, BadSlope, {"slope": slope}, call, *first, 0, 4, slope)


class Ways(unittest.TestCase):
    def test_example(self):
        refused(self, NotAtCorner, {"corner": 0, "face": 5}, corner_way, LONG, 0, 5, (1, 1))
        way = corner_way(LONG, 0, 4, [1, 1])
        self.assertEqual(way, CornerWay(LONG, (1, 1), 0, 4, 6, 4, 1, (4,)))
        self.assertEqual((way.length, way.finish), (1, 6))
        way = corner_way(LONG, 0, 0, (1, 1))
        self.assertEqual((way.length, way.faces), (2, (0, 3)))
        self.assertEqual((way.key, way.back_key, way.squared), ((0, 0), (7, 3), 8))
        self.assertEqual(
            list(vars(way)), ["box", "slope", "start", "face", "finish", "last", "length", "faces"],
        )
        self.assertTrue(only_tuples((way.slope, way.faces, way.key, way.back_key)))
        self.assertIs(type(way.length), int)

    def test_against_vectors(self):
        for box in BOXES:
            for slope in SLOPES:
                for way in all_corner_ways(box, slope):
                    start = place_of_corner(box, way.start)
                    direction = corner_direction(way.start, way.face, slope)
                    rows = traced(box.sides, point(start), way.face, direction, most_passes(box, slope) + 1)
                    self.assertEqual(way.faces, tuple(row[0] for row in rows))
                    self.assertEqual((way.face, way.last), (rows[0][0], rows[-1][0]))
                    self.assertEqual(way.length, sum(row[4] for row in rows))
                    places = [tuple(ratio(value) for value in row[2]) for row in rows]
                    end = tuple(ratio(value) for value in rows[-1][3])
                    self.assertEqual(way_places(way), (*places, end))
                    self.assertEqual(corner_number(box, end), way.finish)
                    self.assertEqual(len(way_places(way)), len(way.faces) + 1)
                    self.assertTrue(only_tuples(way_places(way)))
                    square = sum(step * step for step in direction)
                    self.assertEqual(way.squared, way.length ** 2 * square)

    def test_all(self):
        for box in BOXES:
            for slope in SLOPES:
                ways = all_corner_ways(box, list(slope))
                keys = [way.key for way in ways]
                self.assertEqual(keys, [(corner, face) for corner in range(8) for face in faces_of_corner(corner)])
                self.assertEqual([corner_way(box, *key, slope) for key in keys], list(ways))
                self.assertEqual({way.slope for way in ways}, {slope})
                self.assertIs(type(ways), tuple)
                for way in ways:
                    back = back_way(way)
                    self.assertEqual(back, corner_way(box, back.start, back.face, slope))
                    self.assertEqual((back.key, back.back_key), (way.back_key, way.key))
                    self.assertEqual(back.faces, way.faces[::-1])
                    self.assertTrue(back != way)
                    self.assertEqual(back_way(back), way)
                    self.assertEqual(way_places(back), way_places(way)[::-1])

    def test_lengths_are_those_of_the_lanes(self):
        for box in BOXES:
            for slope in SLOPES:
                try:
                    ways, lanes = all_corner_ways(box, slope), lanes_of(box, slope)
                except TooMany:
                    continue
                self.assertEqual(sum(way.length for way in ways), sum(lane.length for lane in lanes))

    def test_shortest(self):
        for box in BOXES:
            for slope in SLOPES:
                ways = all_corner_ways(box, slope)
                least = min(way.length for way in ways)
                found = shortest_ways(box, list(slope))
                self.assertEqual(list(found), [way for way in ways if way.length == least])
                self.assertIs(type(found), tuple)
        self.assertEqual([way.key for way in shortest_ways(LONG, (1, 1))], [
            (0, 4), (1, 5), (2, 4), (3, 5), (4, 4), (5, 5), (6, 4), (7, 5),
        ])

    def test_slopes_refused(self):
        for slope in WRONG_SLOPES:
            for call in (all_corner_ways, shortest_ways):
                refused(self, BadSlope, {"slope": slope}, call, BOX, slope)

    def test_no_bound_of_passes(self):
        box = Box((59, 60, 58))
        ways = all_corner_ways(box, (9, 8))
        self.assertEqual(len(ways), 24)
        self.assertGreater(max(len(way.faces) for way in ways), 400)

    def test_it_is_a_result(self):
        values = [LONG, (1, 1), 0, 4, 6, 4, 1, [4]]
        made = CornerWay(*values)
        self.assertEqual(made.faces, [4])
        self.assertTrue(made == CornerWay(*values))
        for index in range(8):
            self.assertTrue(made != CornerWay(*values[:index], (2, 2), *values[index + 1:]))
        self.assertIs(made == 4, False)
        self.assertEqual((made.key, made.back_key, made.squared), ((0, 4), (6, 4), 2))


class Between(unittest.TestCase):
    def test_ways_from(self):
        found = list(ways_from(BOX, 3, 3))
        slopes = [(1, 1), (1, 2), (1, 3), (2, 1), (2, 3), (3, 1), (3, 2)]
        self.assertEqual([(way.slope, way.face) for way in found], [(s, f) for s in slopes for f in (0, 3, 5)])
        self.assertEqual(found, [corner_way(BOX, 3, face, slope) for slope in slopes for face in (0, 3, 5)])
        self.assertEqual(len(list(ways_from(BOX, 0, 9))), 165)
        self.assertEqual([way.slope for way in ways_from(BOX, 0, 1)], [(1, 1)] * 3)

    def test_straight_between(self):
        for corner in range(8):
            told = [way for way in ways_from(BOX, corner, 4)]
            for other in range(8):
                found = straight_between(BOX, corner, other, 4)
                self.assertIs(type(found), tuple)
                keys = [(way.squared, way.slope, way.face) for way in found]
                self.assertEqual(keys, sorted(keys))
                self.assertEqual(len(found), len([way for way in told if way.finish == other]))
                self.assertTrue(all(way.start == corner and way.finish == other for way in found))
                back = straight_between(BOX, other, corner, 4)
                self.assertEqual(sorted(way.key for way in map(back_way, back)), sorted(way.key for way in found))
        self.assertEqual(straight_between(LONG, 0, 6, 1)[0], corner_way(LONG, 0, 4, (1, 1)))

    def test_refused_in_order(self):
        for corner in NO_NUMBERS + [-1, 8]:
            refused(self, BadCorner, {"corner": corner}, ways_from, BOX, corner, 0)
            refused(self, BadCorner, {"corner": corner}, straight_between, BOX, corner, 9, 0)
            refused(self, BadCorner, {"corner": corner}, straight_between, BOX, 0, corner, 0)
        for most in NO_NUMBERS + [0, 10]:
            refused(self, BadMost, {"most": most}, ways_from, BOX, 0, most)
            refused(self, BadMost, {"most": most}, straight_between, BOX, 0, 0, most)


if __name__ == "__main__":
    unittest.main()
