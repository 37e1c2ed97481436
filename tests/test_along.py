import unittest
from itertools import permutations, product

from helping import NO_NUMBERS, as_lists, only_tuples, place, refused
from tautparcel.along import (
    all_hows, back_how, check_how, joined_how, keeps_sense, led_box, led_corner, led_direction, led_face, led_place,
    led_row, led_slope, scaled_box, scaled_place,
)
from tautparcel.boxes import Box, faces_of_corner
from tautparcel.errors import (
    BadBox, BadCorner, BadDirection, BadFace, BadHow, BadPlace, BadSize, BadSlope,
)
from tautparcel.places import corner_number, faces_at, place_of_corner
from tautparcel.slopes import directions_on, left_of, mirrored_slope, over_edge, outward_step

BOX = Box((2, 3, 5))
SAME = ((0, 1, 2), (1, 1, 1))
WRONG_HOWS = [
    None, 5, "how", (), ((0, 1, 2),), ((0, 1, 2), (1, 1, 1), 1), ((0, 1), (1, 1, 1)), ((0, 1, 2), (1, 1)),
    ((0, 1, 1), (1, 1, 1)), ((0, 1, 3), (1, 1, 1)), ((0, 1, 2), (1, 1, 0)), ((0, 1, 2), (1, 1, 2)),
    ((False, 1, 2), (1, 1, 1)), ((0, True, 2), (1, 1, 1)), ((0, 1, 2), (True, 1, 1)), ("012", (1, 1, 1)),
    ((0, 1, 2), None), ((0, 1, 2), (1, 1.0, 1)), ((0, 1, 2, 0), (1, 1, 1)), ((0, 1, 2), (1, 1, 1, 1)),
]


class Hows(unittest.TestCase):
    def test_all(self):
        hows = all_hows()
        told = sorted((order, signs) for order in permutations(range(3)) for signs in product((-1, 1), repeat=3))
        self.assertEqual(list(hows), told)
        self.assertTrue(only_tuples(hows))
        for how in hows:
            self.assertEqual(check_how(as_lists(how)), how)
            self.assertTrue(only_tuples(check_how(as_lists(how))))
        self.assertEqual(len([how for how in hows if keeps_sense(how)]), 24)
        self.assertIs(keeps_sense(SAME), True)
        self.assertIs(keeps_sense(((1, 0, 2), (1, 1, 1))), False)
        self.assertIs(keeps_sense([[1, 0, 2], [-1, 1, 1]]), True)

    def test_refused(self):
        for how in WRONG_HOWS:
            for call in (check_how, keeps_sense, back_how):
                refused(self, BadHow, {"how": how}, call, how)
            refused(self, BadHow, {"how": how}, joined_how, how, 5)
            refused(self, BadHow, {"how": how}, joined_how, SAME, how)
            refused(self, BadHow, {"how": how}, led_box, BOX, how)
            refused(self, BadHow, {"how": how}, led_place, BOX, place(0, 0, 0), how)
            refused(self, BadHow, {"how": how}, led_face, 0, how)
            refused(self, BadHow, {"how": how}, led_corner, 7, how)
            refused(self, BadHow, {"how": how}, led_direction, 5, (1, 1, 0), how)
            refused(self, BadHow, {"how": how}, led_slope, (1, 1), how)
            refused(self, BadHow, {"how": how}, led_row, (1, 2), how)
            refused(self, BadHow, {"how": how}, led_row, (), how)

    def test_the_other_argument_first(self):
        refused(self, BadPlace, {"place": 5}, led_place, BOX, 5, 5)
        refused(self, BadFace, {"face": 6}, led_face, 6, 5)
        refused(self, BadFace, {"face": True}, led_face, True, SAME)
        refused(self, BadCorner, {"corner": 8}, led_corner, 8, 5)
        refused(self, BadCorner, {"corner": False}, led_corner, False, SAME)
        refused(self, BadFace, {"face": 6}, led_direction, 6, None, 5)
        refused(self, BadDirection, {"what": "both"}, led_direction, 5, (0, 0, 0), 5)
        refused(self, BadSlope, {"slope": (0, 1)}, led_slope, (0, 1), 5)
        refused(self, BadFace, {"face": 6}, led_row, [1, 6, True], 5)
        refused(self, BadFace, {"face": True}, led_row, [1, True, 6], SAME)
        refused(self, BadFace, {"face": "12"}, led_row, "12", SAME)

    def test_back_and_joined(self):
        for how in all_hows():
            self.assertEqual(joined_how(how, back_how(how)), SAME)
            self.assertEqual(joined_how(back_how(as_lists(how)), how), SAME)
            self.assertTrue(only_tuples(back_how(as_lists(how))))
            for further in all_hows()[::5]:
                joined = joined_how(how, as_lists(further))
                self.assertTrue(only_tuples(joined))
                self.assertEqual(keeps_sense(joined), keeps_sense(how) == keeps_sense(further))
                middle = led_box(BOX, how)
                self.assertEqual(led_box(BOX, joined), led_box(middle, further))
                where = place("1/2", 0, "3/7")
                there = led_place(middle, led_place(BOX, where, how), further)
                self.assertEqual(led_place(BOX, where, joined), there)
                for face in range(6):
                    self.assertEqual(led_face(face, joined), led_face(led_face(face, how), further))
                for corner in range(8):
                    self.assertEqual(led_corner(corner, joined), led_corner(led_corner(corner, how), further))


class Led(unittest.TestCase):
    def test_meaning(self):
        how = [[2, 0, 1], [1, -1, 1]]
        self.assertEqual(led_box(BOX, how), Box((5, 2, 3)))
        self.assertEqual(led_place(BOX, as_lists(place("1/2", 3, "1/3")), how), place("1/3", "3/2", 3))
        self.assertTrue(only_tuples(led_place(BOX, as_lists(place("1/2", 3, "1/3")), how)))
        self.assertEqual([led_face(face, how) for face in range(6)], [3, 2, 4, 5, 0, 1])
        self.assertEqual(led_corner(0, how), 2)
        self.assertEqual(led_corner(5, how), 4)
        self.assertEqual(led_direction(5, [2, 3, 0], how), (0, -2, 3))
        self.assertEqual(led_row([0, 2, 5], how), (3, 4, 1))
        self.assertEqual(led_row((), how), ())
        self.assertEqual(led_slope([2, 3], how), (3, 2))
        self.assertEqual(led_slope([2, 3], SAME), (2, 3))
        self.assertEqual(led_slope((1, 0), how), (1, 0))
        self.assertEqual(mirrored_slope((1, 2)), led_slope((1, 2), ((0, 1, 2), (-1, 1, 1))))
        self.assertEqual(led_row([1] * 1000, SAME), (1,) * 1000)

    def test_places_faces_and_corners_agree(self):
        for how in all_hows():
            box = led_box(BOX, how)
            for corner in range(8):
                there = led_place(BOX, place_of_corner(BOX, corner), how)
                self.assertEqual(corner_number(box, there), led_corner(corner, how))
                faces = sorted(led_face(face, how) for face in faces_of_corner(corner))
                self.assertEqual(tuple(faces), faces_of_corner(led_corner(corner, how)))
            for where in (place(0, "1/2", "1/3"), place("1/3", 3, 5), place(2, "5/2", 1)):
                faces = sorted(led_face(face, how) for face in faces_at(BOX, where))
                self.assertEqual(tuple(faces), faces_at(box, led_place(BOX, where, how)))

    def test_directions_and_slopes_agree(self):
        for how in all_hows():
            for face in range(6):
                there = led_face(face, how)
                for slope in ((2, 3), (1, 1), (1, 0)):
                    led = [led_direction(face, direction, how) for direction in directions_on(face, slope)]
                    self.assertEqual(tuple(sorted(led)), directions_on(there, led_slope(slope, how)))
                    for direction in directions_on(face, slope):
                        turned = left_of(there, led_direction(face, direction, how))
                        same = turned == led_direction(face, left_of(face, direction), how)
                        self.assertEqual(same, keeps_sense(how))
                        for beside in range(6):
                            if beside // 2 != face // 2 and outward_step(beside, direction) > 0:
                                over = over_edge(face, beside, direction)
                                self.assertEqual(
                                    over_edge(there, led_face(beside, how), led_direction(face, direction, how)),
                                    led_direction(beside, over, how),
                                )


class Scaled(unittest.TestCase):
    def test_box(self):
        self.assertEqual(scaled_box(BOX, 3), Box((6, 9, 15)))
        self.assertEqual(scaled_box(BOX, 1), BOX)
        self.assertEqual(scaled_box(Box((1, 1, 1)), 60), Box((60, 60, 60)))
        self.assertEqual(scaled_box(BOX, 12), Box((24, 36, 60)))
        refused(self, BadBox, {"index": 2}, scaled_box, BOX, 13)
        refused(self, BadBox, {"index": 1}, scaled_box, BOX, 21)
        refused(self, BadBox, {"index": 0}, scaled_box, BOX, 60)
        for size in NO_NUMBERS + [0, 61, -1]:
            refused(self, BadSize, {"size": size}, scaled_box, BOX, size)
            refused(self, BadSize, {"size": size}, scaled_place, BOX, place(0, 1, 1), size)

    def test_place(self):
        self.assertEqual(scaled_place(BOX, [[1, 2], [3, 1], [5, 7]], 4), place(2, 12, "20/7"))
        self.assertTrue(only_tuples(scaled_place(BOX, [[1, 2], [3, 1], [5, 7]], 4)))
        self.assertEqual(scaled_place(BOX, place(2, 3, 5), 60), place(120, 180, 300))
        refused(self, BadPlace, {"place": place(1, 1, 1)}, scaled_place, BOX, place(1, 1, 1), 0)


if __name__ == "__main__":
    unittest.main()
