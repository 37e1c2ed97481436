import unittest

from helping import AXES, NO_NUMBERS, only_tuples, refused
from tautparcel.boxes import (
    Box, all_edges, are_beside, check_corner, check_edge, check_face, edge_between, face_axes, faces_beside,
    faces_of_corner, faces_of_edge,
)
from tautparcel.errors import BadBox, BadCorner, BadEdge, BadFace, NoEdge


class Boxes(unittest.TestCase):
    def test_sides(self):
        sides = [1, 60, 7]
        box = Box(sides)
        self.assertEqual(box.sides, (1, 60, 7))
        sides[0] = 5
        self.assertEqual(box.sides, (1, 60, 7))
        self.assertEqual(Box((60, 60, 60)).sides, (60, 60, 60))

    def test_refused(self):
        for thing in (5, None, "123", (1, 2), (1, 2, 3, 4), (), {1: 1, 2: 2, 3: 3}, {1, 2, 3}, iter([1, 2, 3])):
            refused(self, BadBox, {"index": 0}, Box, thing)
        for index in range(3):
            for wrong in NO_NUMBERS + [0, 61, -1]:
                sides = [1, 1, 1]
                sides[index] = wrong
                refused(self, BadBox, {"index": index}, Box, sides)
                refused(self, BadBox, {"index": index}, Box, tuple(sides))
        refused(self, BadBox, {"index": 1}, Box, (60, 61, 0))

    def test_equal(self):
        self.assertTrue(Box([1, 2, 3]) == Box((1, 2, 3)))
        self.assertFalse(Box([1, 2, 3]) != Box((1, 2, 3)))
        self.assertTrue(Box([1, 2, 3]) != Box((1, 3, 2)))
        for other in ((1, 2, 3), None, 5, "box", object()):
            self.assertIs(Box([1, 2, 3]) == other, False)
            self.assertIs(Box([1, 2, 3]) != other, True)

    def test_skin_area(self):
        self.assertEqual(Box((1, 1, 1)).skin_area, 6)
        self.assertEqual(Box((1, 2, 3)).skin_area, 22)
        self.assertEqual(Box((60, 60, 60)).skin_area, 21600)

    def test_corner_places(self):
        places = Box((2, 3, 5)).corner_places
        self.assertEqual(places[0], ((0, 1), (0, 1), (0, 1)))
        self.assertEqual(places[1], ((0, 1), (0, 1), (5, 1)))
        self.assertEqual(places[6], ((2, 1), (3, 1), (0, 1)))
        for corner in range(8):
            self.assertEqual(places[corner], ((corner // 4 * 2, 1), (corner // 2 % 2 * 3, 1), (corner % 2 * 5, 1)))
        self.assertEqual(list(places), sorted(places))
        self.assertTrue(only_tuples(places))


class Faces(unittest.TestCase):
    def test_check(self):
        for face in range(6):
            self.assertEqual(check_face(face), face)
        for corner in range(8):
            self.assertEqual(check_corner(corner), corner)
        for wrong in NO_NUMBERS + [-1, 6]:
            for call in (check_face, face_axes, faces_beside):
                refused(self, BadFace, {"face": wrong}, call, wrong)
        for wrong in NO_NUMBERS + [-1, 8]:
            for call in (check_corner, faces_of_corner):
                refused(self, BadCorner, {"corner": wrong}, call, wrong)

    def test_face_axes(self):
        self.assertEqual([face_axes(face) for face in range(6)], AXES)
        # From outside, the first axis, the second one and the outward axis make a right-handed frame.
        for face in range(6):
            first, second = face_axes(face)
            even = (first, second, face // 2) in ((0, 1, 2), (1, 2, 0), (2, 0, 1))
            self.assertEqual(even, face % 2 == 1)

    def test_beside(self):
        for face in range(6):
            for other in range(6):
                self.assertIs(are_beside(face, other), face // 2 != other // 2)
        self.assertEqual(faces_beside(0), (2, 3, 4, 5))
        self.assertEqual(faces_beside(3), (0, 1, 4, 5))
        self.assertEqual(faces_beside(5), (0, 1, 2, 3))
        refused(self, BadFace, {"face": 6}, are_beside, 6, 7)
        refused(self, BadFace, {"face": True}, are_beside, 0, True)

    def test_corner_faces(self):
        self.assertEqual(faces_of_corner(0), (0, 2, 4))
        self.assertEqual(faces_of_corner(7), (1, 3, 5))
        self.assertEqual(faces_of_corner(4), (1, 2, 4))
        self.assertEqual(faces_of_corner(3), (0, 3, 5))


class Edges(unittest.TestCase):
    def test_all(self):
        self.assertEqual(all_edges(), (
            (0, 1), (0, 2), (0, 4), (1, 3), (1, 5), (2, 3), (2, 6), (3, 7), (4, 5), (4, 6), (5, 7), (6, 7),
        ))

    def test_check(self):
        for low, high in all_edges():
            for given in ((low, high), [low, high], (high, low), [high, low]):
                self.assertEqual(check_edge(given), (low, high))
                self.assertIs(type(check_edge(given)), tuple)
        wrong = [
            (0, 3), (0, 7), (0, 0), (0, 8), (-1, 0), (True, 0), (0, True), (0,), (0, 1, 2), 1, None, "01", (1, "0"),
        ]
        for edge in wrong:
            for call in (check_edge, faces_of_edge):
                refused(self, BadEdge, {"edge": edge}, call, edge)

    def test_faces(self):
        self.assertEqual(faces_of_edge((0, 1)), (0, 2))
        self.assertEqual(faces_of_edge([7, 6]), (1, 3))
        self.assertEqual(faces_of_edge((1, 5)), (2, 5))
        for edge in all_edges():
            faces = faces_of_edge(edge)
            self.assertEqual(edge_between(*faces), edge)
            self.assertEqual(edge_between(faces[1], faces[0]), edge)
            self.assertEqual(faces, tuple(sorted(faces)))

    def test_between_refuses(self):
        refused(self, NoEdge, {"face": 2, "beside": 3}, edge_between, 2, 3)
        refused(self, NoEdge, {"face": 4, "beside": 4}, edge_between, 4, 4)
        refused(self, BadFace, {"face": 6}, edge_between, 6, -1)
        refused(self, BadFace, {"face": -1}, edge_between, 0, -1)
        refused(self, BadFace, {"face": False}, edge_between, 0, False)


if __name__ == "__main__":
    unittest.main()
