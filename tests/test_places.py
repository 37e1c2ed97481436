import unittest

from helping import NO_NUMBERS, as_lists, only_tuples, place, refused
from tautparcel.boxes import Box, edge_between
from tautparcel.errors import BadFace, BadPlace
from tautparcel.places import (
    check_place, corner_number, edge_of_place, faces_at, framed, kind_of_place, place_of_corner, place_on,
)

BOX = Box((2, 3, 5))
CHECKED = (check_place, faces_at, kind_of_place, corner_number, edge_of_place)
GREAT = 10 ** 12


class Places(unittest.TestCase):
    def test_check(self):
        for where in (place(0, 1, 1), place(2, "1/2", "7/2"), place(2, 3, 5), place("1/3", 0, 5), place(1, 1, 0)):
            self.assertEqual(check_place(BOX, where), where)
            self.assertEqual(check_place(BOX, as_lists(where)), where)
            self.assertTrue(only_tuples(check_place(BOX, as_lists(where))))

    def test_bottoms(self):
        let = ((1, GREAT), (1, 1), (0, 1))
        self.assertEqual(check_place(BOX, let), let)
        self.assertEqual(check_place(BOX, ((2, 1), (1, 1), (1, GREAT))), ((2, 1), (1, 1), (1, GREAT)))
        above = ((1, GREAT + 1), (1, 1), (0, 1))
        for call in CHECKED:
            refused(self, BadPlace, {"place": above}, call, BOX, above)

    def test_refused(self):
        wrong = [
            None, 5, "abc", (), place(0, 1), place(0, 1, 1, 1), place(1, 1, 1), place(-1, 1, 0), place("5/2", 1, 0),
            place(0, 4, 1), place(0, 1, 6), place(0, 1, -1), [(0, 1), (1, 1), (2, 2)], [(0, 1), (1, 1), 1],
            [(0, 1), (1, 1), (True, 1)], [(False, 1), (1, 1), (1, 1)], [(0, 1), (1, True), (1, 1)],
            [(0, 1), (1, 1), (1, -1)], [(0, 2), (1, 1), (1, 1)], {0: (0, 1), 1: (1, 1), 2: (1, 1)},
        ]
        for thing in wrong:
            for call in CHECKED:
                refused(self, BadPlace, {"place": thing}, call, BOX, thing)

    def test_faces_at(self):
        self.assertEqual(faces_at(BOX, place(0, 1, 1)), (0,))
        self.assertEqual(faces_at(BOX, place(2, 1, 1)), (1,))
        self.assertEqual(faces_at(BOX, place(1, 0, 1)), (2,))
        self.assertEqual(faces_at(BOX, place(1, 3, 1)), (3,))
        self.assertEqual(faces_at(BOX, place(1, 1, 0)), (4,))
        self.assertEqual(faces_at(BOX, place(1, 1, 5)), (5,))
        self.assertEqual(faces_at(BOX, [[2, 1], [1, 2], [5, 1]]), (1, 5))
        self.assertEqual(faces_at(BOX, place(2, 0, 5)), (1, 2, 5))

    def test_kinds(self):
        self.assertEqual(kind_of_place(BOX, place(0, 1, 1)), "inside")
        self.assertEqual(kind_of_place(BOX, place(0, 1, 0)), "edge")
        self.assertEqual(kind_of_place(BOX, place(0, 3, 0)), "corner")

    def test_corners(self):
        for corner in range(8):
            where = place_of_corner(BOX, corner)
            self.assertEqual(where, BOX.corner_places[corner])
            self.assertEqual(corner_number(BOX, where), corner)
            self.assertIsNone(edge_of_place(BOX, where))
            self.assertTrue(only_tuples(where))
        self.assertIsNone(corner_number(BOX, place(0, 1, 0)))
        self.assertIsNone(corner_number(BOX, place(0, 1, 1)))

    def test_edges(self):
        self.assertEqual(edge_of_place(BOX, place(0, 1, 0)), (0, 2))
        self.assertEqual(edge_of_place(BOX, place("1/2", 3, 5)), (3, 7))
        self.assertIsNone(edge_of_place(BOX, place(0, 1, 1)))
        for face in range(6):
            for beside in range(6):
                if face // 2 < beside // 2:
                    where = [(1, 2), (1, 2), (1, 2)]
                    for one in (face, beside):
                        where[one // 2] = (BOX.sides[one // 2] * (one % 2), 1)
                    self.assertEqual(edge_of_place(BOX, where), edge_between(face, beside))


class On(unittest.TestCase):
    def test_place_on(self):
        self.assertEqual(place_on(BOX, 0, (1, 2), (1, 3)), place(0, "1/3", "1/2"))
        self.assertEqual(place_on(BOX, 1, (1, 2), (1, 3)), place(2, "1/2", "1/3"))
        self.assertEqual(place_on(BOX, 2, (1, 2), [1, 3]), place("1/2", 0, "1/3"))
        self.assertEqual(place_on(BOX, 3, (1, 2), (1, 3)), place("1/3", 3, "1/2"))
        self.assertEqual(place_on(BOX, 4, [1, 2], (1, 3)), place("1/3", "1/2", 0))
        self.assertEqual(place_on(BOX, 5, (2, 1), (3, 1)), place(2, 3, 5))
        self.assertTrue(only_tuples(place_on(BOX, 4, [1, 2], [1, 3])))

    def test_place_on_refuses(self):
        for face in NO_NUMBERS + [6, -1]:
            refused(self, BadFace, {"face": face}, place_on, BOX, face, (9, 1), 4)
        refused(self, BadPlace, {"place": [(1, 1), (4, 1), (5, 1)]}, place_on, BOX, 5, (1, 1), (4, 1))
        refused(self, BadPlace, {"place": [(0, 1), (-1, 1), (1, 2)]}, place_on, BOX, 0, (1, 2), (-1, 1))
        refused(self, BadPlace, {"place": [(2, 4), 7, (0, 1)]}, place_on, BOX, 4, 7, (2, 4))
        refused(self, BadPlace, {"place": [(2, 1), True, (1, 1)]}, place_on, BOX, 1, True, (1, 1))
        refused(self, BadPlace, {"place": [(1, 1), (1, GREAT + 1), (0, 1)]}, place_on, BOX, 4, (1, GREAT + 1), (1, 1))

    def test_framed(self):
        told = [(9, 8), (8, 9), (7, 9), (9, 7), (8, 7), (7, 8)]
        self.assertEqual([framed(face, (7, 8, 9)) for face in range(6)], told)
        self.assertEqual(framed(5, [[1, 2], [1, 3], [0, 1]]), ((1, 2), (1, 3)))
        self.assertTrue(only_tuples(framed(5, [[1, 2], [1, 3], [0, 1]])))
        self.assertEqual(framed(0, "abc"), ("c", "b"))
        for face in NO_NUMBERS + [6]:
            refused(self, BadFace, {"face": face}, framed, face, (1, 2, 3))


if __name__ == "__main__":
    unittest.main()
