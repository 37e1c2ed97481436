import unittest

from helping import (
    AXES, BOXES, NO_NUMBERS, SLOPES, as_lists, check_result, faces_with, only_tuples, place, point, refused,
)
from tautparcel.boxes import Box
from tautparcel.crossings import crossings_of
from tautparcel.errors import BadPlace, BadSlope, BadStart, BadSteep
from tautparcel.farplaces import when_at
from tautparcel.lanes import lanes_of
from tautparcel.places import place_of_corner
from tautparcel.rays import corner_ahead
from tautparcel.ribbons import Ribbon, least_ribbon, length_square, ribbon_of
from tautparcel.shortribbons import slopes_to
from tautparcel.slopes import directions_on
from tautparcel.steps import check_entrance
from tautparcel.through import Through, ribbons_through, shortest_through, ways_through
from tautparcel.wherelane import middle_ribbon

CUBE = Box((1, 1, 1))
BOX = Box((2, 3, 5))
WRONG_SLOPES = [(1, 0), (0, 1), (2, 2), (10, 1), None, (True, 1), "11"]


def some_places(box):
    """Places inside faces and on edges, no corners, some of them on many corner ways."""
    found = {}
    for face in range(6):
        first, second = AXES[face]
        for u, v in (("1/2", "1/2"), ("1/3", "2/7"), ("1/2", 0), (0, "1/3"), ("1/4", "3/4"), ("1/5", "1/2")):
            where = [box.sides[face // 2] * (face % 2)] * 3
            where[first], where[second] = u, v
            found[place(*where)] = True
    return [where for where in found if len(faces_with(box.sides, point(where))) < 3]


def entrances_at(box, where, slope):
    """All entrances of a slope at a place, by trying them all."""
    found = []
    for face in range(6):
        for direction in directions_on(face, slope):
            try:
                check_entrance(box, where, face, direction)
                found.append((face, direction))
            except BadStart:
                pass
    return found


class Ways(unittest.TestCase):
    def test_by_trying(self):
        for box in BOXES[:5]:
            for slope in SLOPES:
                for where in some_places(box):
                    found = ways_through(box, as_lists(where), list(slope))
                    self.assertEqual(found, tuple(entrances_at(box, where, slope)))
                    self.assertEqual((len(found), list(found)), (4, sorted(found)))
                    faces = sorted(face for face, _ in found)
                    at = faces_with(box.sides, point(where))
                    self.assertEqual(faces, at * 4 if len(at) == 1 else sorted(at * 2))
                    self.assertTrue(only_tuples(found))

    def test_refused_in_order(self):
        good, corner = place(1, 1, 5), place(0, 3, 0)
        for call in (ways_through, ribbons_through):
            for where in NO_NUMBERS + [(1, 2, 3), place(1, 1, 1), ((1, 10 ** 13), (0, 1), (0, 1))]:
                refused(self, BadPlace, {"place": where}, call, BOX, where, None)
            for slope in WRONG_SLOPES:
                refused(self, BadSlope, {"slope": slope}, call, BOX, good, slope)
                refused(self, BadSlope, {"slope": slope}, call, BOX, corner, slope)
            for index in range(8):
                refused(self, BadStart, {"what": "corner"}, call, BOX, place_of_corner(BOX, index), (2, 1))
        for where in NO_NUMBERS + [(1, 2, 3), place(1, 1, 1)]:
            refused(self, BadPlace, {"place": where}, shortest_through, BOX, where, 0)
        for steep in NO_NUMBERS + [0, 10]:
            refused(self, BadSteep, {"steep": steep}, shortest_through, BOX, good, steep)
            refused(self, BadSteep, {"steep": steep}, shortest_through, BOX, corner, steep)
        refused(self, BadStart, {"what": "corner"}, shortest_through, BOX, corner, 1)


class Ribbons(unittest.TestCase):
    def test_by_entrances(self):
        many = {}
        for box in BOXES[:5]:
            for slope in SLOPES[:5]:
                for where in some_places(box)[::2]:
                    told, corners = [], 0
                    for face, direction in ways_through(box, where, slope):
                        ribbon = ribbon_of(box, where, face, direction)
                        if isinstance(ribbon, Ribbon):
                            if least_ribbon(ribbon) not in told:
                                told.append(least_ribbon(ribbon))
                        else:
                            corners += 1
                            self.assertIsNotNone(corner_ahead(box, where, face, direction))
                    found = ribbons_through(box, as_lists(where), list(slope))
                    self.assertEqual([through.ribbon for through in found], told)
                    self.assertTrue(only_tuples(found))
                    moments = [through.moments for through in found]
                    self.assertEqual(moments, [when_at(ribbon, where) for ribbon in told])
                    self.assertEqual(2 * sum(len(row) for row in moments) + corners, 4)
                    for through in found:
                        if len(through.moments) == 2:
                            met = [crossing.place for crossing in crossings_of(through.ribbon)]
                            self.assertIn(where, met)
                    kind = (len(found), sum(len(row) for row in moments))
                    many[kind] = many.get(kind, 0) + 1
        self.assertEqual(sorted(many), [(0, 0), (1, 1), (1, 2), (2, 2)])

    def test_none(self):
        where = place("1/2", "1/2", 1)
        self.assertEqual(ribbons_through(CUBE, where, (1, 1)), ())
        self.assertEqual(shortest_through(CUBE, where, 1), ())

    def test_twice(self):
        box = Box((1, 1, 2))
        ribbon = middle_ribbon(lanes_of(box, (1, 1)).lanes[0])
        crossing = crossings_of(ribbon)[0]
        found = ribbons_through(box, crossing.place, (1, 1))
        self.assertEqual(len(found), 1)
        self.assertEqual(found[0].ribbon, least_ribbon(ribbon))
        self.assertEqual(len(found[0].moments), 2)

    def test_it_is_a_result(self):
        check_result(self, Through, ["ribbon", "moments"])


class Shortest(unittest.TestCase):
    def test_by_all(self):
        for box in (CUBE, Box((1, 1, 2)), Box((1, 2, 3)), BOX):
            for where in some_places(box)[::9]:
                for steep in (1, 2, 5):
                    every = [through for slope in slopes_to(steep) for through in ribbons_through(box, where, slope)]
                    least = min([length_square(through.ribbon) for through in every], default=None)
                    told = tuple(through for through in every if length_square(through.ribbon) == least)
                    found = shortest_through(box, as_lists(where), steep)
                    self.assertEqual(found, told)
                    self.assertTrue(only_tuples(found))

    def test_steepest(self):
        found = shortest_through(CUBE, place("1/2", "1/3", 1), 9)
        self.assertEqual({length_square(through.ribbon) for through in found}, {18})


if __name__ == "__main__":
    unittest.main()
