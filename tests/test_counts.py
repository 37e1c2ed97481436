import unittest
from fractions import Fraction

from helping import ALL_SLOPES, AXES, BOXES, number, place, refused
from test_facerows import BAD_ROWS
from test_lanes import some_lanes
from tautparcel.boxes import Box, all_edges, edge_between
from tautparcel.counts import (
    breadths_by_edge, breadths_by_face, edge_counts, face_counts, least_length, length_by_counts, shortest_square,
)
from tautparcel.errors import BadFaceRow, BadSlope
from tautparcel.facerows import back_row, begun_row
from tautparcel.lanes import lanes_of
from tautparcel.ribbons import length_square, ribbon_of
from tautparcel.wherelane import ribbon_in

CUBE = Box((1, 1, 1))
BOX = Box((2, 3, 5))
LONG = Box((1, 1, 2))
ROWS = [(0, 2, 4), (0, 2, 1, 3), (0, 2, 5, 1, 3, 4), (0, 2, 1, 3) * 100, (0, 2, 4, 1, 2, 5, 1, 3)]
WRONG_SLOPES = [(0, 1), (2, 2), (10, 1), None, (True, 1), "11"]


class Counts(unittest.TestCase):
    def test_one_by_one(self):
        self.assertEqual(face_counts([0, 2, 5, 1, 3, 4]), (1, 1, 1, 1, 1, 1))
        self.assertEqual(face_counts((0, 2, 4)), (1, 0, 1, 0, 1, 0))
        # 0 to 2 over edge (0, 1), 2 to 4 over (0, 4), 4 to 0 over (0, 2).
        self.assertEqual(edge_counts([0, 2, 4]), (1, 1, 1, 0, 0, 0, 0, 0, 0, 0, 0, 0))
        self.assertEqual(all_edges()[:3], ((0, 1), (0, 2), (0, 4)))
        for row in ROWS:
            self.assertEqual(face_counts(row), tuple(len([face for face in row if face == k]) for k in range(6)))
            over = [edge_between(row[index - 1], row[index]) for index in range(len(row))]
            self.assertEqual(edge_counts(row), tuple(over.count(edge) for edge in all_edges()))
            self.assertEqual((sum(face_counts(row)), sum(edge_counts(row))), (len(row), len(row)))
            self.assertEqual((type(face_counts(row)), type(edge_counts(row))), (tuple, tuple))

    def test_in_either_sense_and_from_anywhere(self):
        for row in ROWS:
            for other in (back_row(row), begun_row(row, 2)):
                self.assertEqual((face_counts(other), edge_counts(other)), (face_counts(row), edge_counts(row)))

    def test_of_ribbons(self):
        for lanes in some_lanes():
            for lane in lanes:
                counts = face_counts(lane.faces)
                if lanes.slope == (1, 0):
                    self.assertEqual(sorted(counts), [0, 0, 1, 1, 1, 1])
                else:
                    self.assertGreaterEqual(min(counts), 1)
                self.assertEqual(counts[::2], counts[1::2])
                self.assertEqual(face_counts(ribbon_in(lane, (1, 3)).faces), counts)

    def test_refused(self):
        for row, index in BAD_ROWS:
            for call in (face_counts, edge_counts):
                refused(self, BadFaceRow, {"index": index}, call, row)
            refused(self, BadFaceRow, {"index": index}, length_by_counts, BOX, (1, 0), row)


class Lengths(unittest.TestCase):
    def test_of_lanes(self):
        for lanes in some_lanes():
            for lane in lanes:
                self.assertEqual(length_by_counts(lanes.box, list(lanes.slope), lane.faces), (lane.length, 1))
                i, j, k = face_counts(lane.faces)[::2]
                a, b, c = lanes.box.sides
                self.assertEqual(lane.length * sum(lanes.slope), 2 * (a * i + b * j + c * k))
                if sum(lanes.slope) % 2 == 1 and lanes.slope != (1, 0):
                    self.assertEqual(lane.length % 2, 0)

    def test_example(self):
        for lane in lanes_of(LONG, (1, 1)):
            i, j, k = face_counts(lane.faces)[::2]
            self.assertEqual((lane.length, i + j, k), (10, 6, 2))
        lanes = lanes_of(CUBE, (1, 1))
        self.assertEqual([(lane.breadth, face_counts(lane.faces)) for lane in lanes], [(1, (1,) * 6)] * 8)
        self.assertEqual(breadths_by_face(lanes), (8,) * 6)

    def test_of_any_row(self):
        for row in ROWS:
            for slope in ((1, 0), (1, 1), (5, 4), (2, 7)):
                told = Fraction(sum(BOX.sides[face // 2] for face in row), sum(slope))
                found = length_by_counts(BOX, slope, list(row))
                self.assertEqual((number(found), type(found)), (told, tuple))
        self.assertEqual(length_by_counts(BOX, (2, 1), (0, 2, 4)), (10, 3))

    def test_slopes_refused_first(self):
        for slope in WRONG_SLOPES:
            refused(self, BadSlope, {"slope": slope}, length_by_counts, BOX, slope, None)


class Breadths(unittest.TestCase):
    def test_over_faces(self):
        for lanes in some_lanes():
            found = breadths_by_face(lanes)
            for face in range(6):
                first, second = [lanes.box.sides[axis] for axis in AXES[face]]
                self.assertEqual(found[face], 2 * sum(lanes.slope) * (first + second))
                told = sum(lane.breadth * lane.faces.count(face) for lane in lanes)
                self.assertEqual(found[face], told)
            self.assertEqual((type(found), len(found)), (tuple, 6))

    def test_over_edges(self):
        for lanes in some_lanes():
            found = breadths_by_edge(lanes)
            for told, (low, high) in zip(found, all_edges()):
                side = lanes.box.sides[{4: 0, 2: 1, 1: 2}[high - low]]
                self.assertEqual(told, 2 * sum(lanes.slope) * side)
            self.assertEqual((type(found), len(found)), (tuple, 12))


class Least(unittest.TestCase):
    def test_by_words(self):
        for box in BOXES + [Box((60, 59, 58)), Box((60, 60, 60))]:
            for slope in ALL_SLOPES:
                many, whole = sum(slope), 2 * sum(box.sides)
                told = [n for n in range(1, whole + 2) if n * many >= whole and (many % 2 == 0 or n % 2 == 0)][0]
                self.assertEqual(least_length(box, list(slope)), told)

    def test_no_ribbon_is_shorter(self):
        met = 0
        for lanes in some_lanes():
            if lanes.slope != (1, 0):
                least = least_length(lanes.box, lanes.slope)
                lengths = [lane.length for lane in lanes]
                self.assertGreaterEqual(min(lengths), least)
                met += min(lengths) == least
                first, second = lanes.slope
                square = min(lengths) ** 2 * (first ** 2 + second ** 2)
                self.assertGreaterEqual(square, 2 * sum(lanes.box.sides) ** 2)
                self.assertGreater(square, shortest_square(lanes.box))
        self.assertGreater(met, 3)

    def test_steeper_ones_are_not_short_either(self):
        for box in (CUBE, LONG, BOX):
            for direction in ((11, 10, 0), (40, 17, 0), (1, 30, 0)):
                ribbon = ribbon_of(box, place("1/2", "1/3", box.sides[2]), 5, direction)
                self.assertGreaterEqual(length_square(ribbon), 2 * sum(box.sides) ** 2)
                self.assertGreater(length_square(ribbon), shortest_square(box))
                self.assertEqual(len(set(ribbon.faces)), 6)

    def test_shortest_are_bands(self):
        for box in BOXES:
            lengths = [lane.length for lane in lanes_of(box, (1, 0))]
            self.assertEqual(shortest_square(box), min(lengths) ** 2)
        self.assertEqual(shortest_square(Box((5, 2, 3))), 100)

    def test_refused(self):
        for slope in WRONG_SLOPES + [(1, 0)]:
            refused(self, BadSlope, {"slope": slope}, least_length, BOX, slope)


if __name__ == "__main__":
    unittest.main()
