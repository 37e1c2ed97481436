import unittest
from fractions import Fraction

from helping import ALL_SLOPES, AXES, BOXES, NO_NUMBERS, SLOPES, only_tuples, place, refused, vector_out
from tautparcel.boxes import edge_between, faces_beside
from tautparcel.errors import BadDirection, BadFace, BadSlope, NotOver
from tautparcel.places import place_of_corner
from tautparcel.ratios import minus
from tautparcel.slopes import (
    back_of, check_direction, check_slope, directions_on, left_of, mirrored_slope, outward_step, over_edge, sideways,
    slope_of, unframed,
)

DIRECTION_CALLS = (check_direction, slope_of, back_of, left_of)


class Slopes(unittest.TestCase):
    def test_check(self):
        self.assertEqual(len(ALL_SLOPES), 55)
        for slope in ALL_SLOPES:
            self.assertEqual(check_slope(list(slope)), slope)
            self.assertEqual(check_slope(slope, True), slope)
            self.assertIs(type(check_slope(list(slope))), tuple)

    def test_band(self):
        self.assertEqual(check_slope([1, 0], True), (1, 0))
        self.assertEqual(check_slope((1, 0), band=True), (1, 0))
        refused(self, BadSlope, {"slope": (1, 0)}, check_slope, (1, 0))
        refused(self, BadSlope, {"slope": (1, 0)}, check_slope, (1, 0), False)

    def test_refused(self):
        wrong = [
            (0, 1), (0, 0), (2, 0), (2, 2), (3, 9), (10, 1), (1, 10), (-1, 1), (1, -1), (1,), (1, 2, 3), None, 3, "12",
            (True, 2), (2, True), (1, False), (True, 0), (True, False), (1.0, 2), {1: 1, 2: 2},
        ]
        for slope in wrong:
            refused(self, BadSlope, {"slope": slope}, check_slope, slope)
            refused(self, BadSlope, {"slope": slope}, check_slope, slope, True)
            refused(self, BadSlope, {"slope": slope}, mirrored_slope, slope)
            refused(self, BadSlope, {"slope": slope}, directions_on, 3, slope)

    def test_mirrored(self):
        self.assertEqual(mirrored_slope([2, 3]), (3, 2))
        self.assertEqual(mirrored_slope((1, 1)), (1, 1))
        self.assertEqual(mirrored_slope([1, 0]), (1, 0))
        self.assertIs(type(mirrored_slope([1, 0])), tuple)


class Directions(unittest.TestCase):
    def test_check(self):
        for direction in [(0, 1, 0), (0, -1, 0), (0, 10000, -9999), (0, 10000, 1), (0, -10000, 1), (0, 3, 14)]:
            for face in (0, 1):
                self.assertEqual(check_direction(face, list(direction)), direction)
                self.assertIs(type(check_direction(face, list(direction))), tuple)

    def test_words(self):
        kind = [
            None, 5, "012", (0, 1), (0, 1, 1, 0), (0, 10001, 1), (0, 1, -10001), (0, True, 2), (False, 1, 1),
            (0, 1.0, 1),
        ]
        for call in DIRECTION_CALLS:
            for direction in kind:
                refused(self, BadDirection, {"what": "kind"}, call, 0, direction)
            refused(self, BadDirection, {"what": "kind"}, call, 0, (3, 10001, 0))
            for direction in [(1, 1, 0), (-1, 0, 0), [2, 2, 0]]:
                refused(self, BadDirection, {"what": "axis"}, call, 1, direction)
            refused(self, BadDirection, {"what": "both"}, call, 1, (0, 0, 0))
            for direction in [(0, 2, 0), (0, -2, 4), [0, 0, -3], (0, 10000, 10000)]:
                refused(self, BadDirection, {"what": "common"}, call, 1, direction)
            refused(self, BadDirection, {"what": "axis"}, call, 2, (0, 1, 0))
            refused(self, BadDirection, {"what": "axis"}, call, 5, (1, 0, 1))

    def test_face_first(self):
        for face in NO_NUMBERS + [6, -1]:
            for call in DIRECTION_CALLS:
                refused(self, BadFace, {"face": face}, call, face, None)
            refused(self, BadFace, {"face": face}, directions_on, face, None)
            refused(self, BadFace, {"face": face}, unframed, face, 1, 2)

    def test_unframed(self):
        self.assertEqual(
            [unframed(face, 7, 8) for face in range(6)],
            [(0, 8, 7), (0, 7, 8), (7, 0, 8), (8, 0, 7), (8, 7, 0), (7, 8, 0)],
        )

    def test_on_a_face(self):
        self.assertEqual(directions_on(5, [2, 3]), ((-3, 2, 0), (-2, -3, 0), (2, 3, 0), (3, -2, 0)))
        self.assertEqual(directions_on(0, (2, 3)), ((0, -3, -2), (0, -2, 3), (0, 2, -3), (0, 3, 2)))
        self.assertEqual(directions_on(4, (1, 0)), ((-1, 0, 0), (0, -1, 0), (0, 1, 0), (1, 0, 0)))
        for face in range(6):
            for slope in ALL_SLOPES + [(1, 0)]:
                found = directions_on(face, slope)
                self.assertEqual(list(found), sorted(found))
                self.assertEqual(len(set(found)), 4)
                self.assertTrue(only_tuples(found))
                for direction in found:
                    self.assertEqual(slope_of(face, direction), slope)
                    self.assertIn(left_of(face, direction), found)
                    self.assertIn(back_of(face, direction), found)

    def test_slope_of(self):
        self.assertEqual(slope_of(5, [0, 1, 0]), (1, 0))
        self.assertEqual(slope_of(5, (0, -1, 0)), (1, 0))
        self.assertEqual(slope_of(5, (-1, 0, 0)), (1, 0))
        self.assertEqual(slope_of(5, (-14, 3, 0)), (3, 14))
        self.assertEqual(slope_of(4, (14, 3, 0)), (3, 14))
        self.assertEqual(slope_of(4, (-3, 14, 0)), (3, 14))
        self.assertEqual(slope_of(4, (3, 14, 0)), (14, 3))
        self.assertEqual(slope_of(5, (10000, -9999, 0)), (9999, 10000))

    def test_left(self):
        self.assertEqual(left_of(5, (2, 3, 0)), (-3, 2, 0))
        self.assertEqual(left_of(4, [2, 3, 0]), (3, -2, 0))
        # Left is the outward axis cross the direction, seen from outside.
        for face in range(6):
            x, y, z = vector_out(face)
            for direction in directions_on(face, (2, 3)):
                a, b, c = direction
                self.assertEqual(left_of(face, direction), (y * c - z * b, z * a - x * c, x * b - y * a))
                self.assertEqual(back_of(face, list(direction)), (-a, -b, -c))


class OverEdges(unittest.TestCase):
    def test_outward_step(self):
        self.assertEqual([outward_step(face, (7, 8, 9)) for face in range(6)], [-7, 7, -8, 8, -9, 9])

    def test_rule(self):
        self.assertEqual(over_edge(5, 1, (2, 3, 0)), (0, 3, -2))
        self.assertEqual(over_edge(5, 3, [2, 3, 0]), (2, 0, -3))
        self.assertEqual(over_edge(4, 1, (2, 3, 0)), (0, 3, 2))
        self.assertEqual(over_edge(0, 2, (0, -3, 1)), (3, 0, 1))
        for face in range(6):
            for beside in faces_beside(face):
                for slope in SLOPES + [(1, 0)]:
                    for direction in directions_on(face, slope):
                        met, out = vector_out(beside), vector_out(face)
                        a = sum(d * m for d, m in zip(direction, met))
                        self.assertEqual(outward_step(beside, direction), a)
                        if a <= 0:
                            refused(self, NotOver, {"face": face, "beside": beside}, over_edge, face, beside, direction)
                            continue
                        told = tuple(d - a * m - a * n for d, m, n in zip(direction, met, out))
                        self.assertEqual(over_edge(face, beside, direction), told)
                        self.assertEqual(slope_of(beside, told), slope)

    def test_refused(self):
        refused(self, BadFace, {"face": 6}, over_edge, 6, 7, None)
        refused(self, BadFace, {"face": 7}, over_edge, 5, 7, None)
        refused(self, BadFace, {"face": True}, over_edge, 5, True, (1, 1, 0))
        refused(self, BadDirection, {"what": "kind"}, over_edge, 5, 4, None)
        refused(self, BadDirection, {"what": "axis"}, over_edge, 5, 5, (0, 1, 1))
        refused(self, NotOver, {"face": 5, "beside": 4}, over_edge, 5, 4, (1, 1, 0))
        refused(self, NotOver, {"face": 5, "beside": 5}, over_edge, 5, 5, (1, 1, 0))
        refused(self, NotOver, {"face": 5, "beside": 0}, over_edge, 5, 0, (1, 1, 0))
        refused(self, NotOver, {"face": 5, "beside": 2}, over_edge, 5, 2, (1, 0, 0))

    def test_sideways(self):
        self.assertEqual(sideways(5, (2, 3, 0), place("1/2", "1/3", 4)), (-5, 6))
        self.assertEqual(sideways(4, [2, 3, 0], [[1, 2], [1, 3], [0, 1]]), (5, 6))
        self.assertIs(type(sideways(4, [2, 3, 0], [[1, 2], [1, 3], [0, 1]])), tuple)
        for face in NO_NUMBERS + [6]:
            refused(self, BadFace, {"face": face}, sideways, face, (1, 1, 0), place(0, 0, 0))

    def test_sideways_is_constant_along_and_grows_to_the_left(self):
        for face in range(6):
            first, second = AXES[face]
            for direction in directions_on(face, (3, 2)):
                where = [Fraction(1, 3)] * 3
                along = [value + Fraction(5, 7) * step for value, step in zip(where, direction)]
                left = [value + Fraction(5, 7) * step for value, step in zip(where, left_of(face, direction))]
                self.assertEqual(sideways(face, direction, place(*where)), sideways(face, direction, place(*along)))
                grown = minus(sideways(face, direction, place(*left)), sideways(face, direction, place(*where)))
                self.assertEqual(grown, (65, 7))

    def test_sideways_changes_by_a_whole_number_over_an_edge(self):
        for box in BOXES:
            for face in range(6):
                for beside in faces_beside(face):
                    for direction in directions_on(face, (3, 2)):
                        if outward_step(beside, direction) > 0:
                            turned = over_edge(face, beside, direction)
                            steps = []
                            for corner in edge_between(face, beside):
                                where = place_of_corner(box, corner)
                                steps.append(minus(sideways(beside, turned, where), sideways(face, direction, where)))
                            self.assertEqual(steps[0], steps[1])
                            self.assertEqual(steps[0][1], 1)


if __name__ == "__main__":
    unittest.main()
