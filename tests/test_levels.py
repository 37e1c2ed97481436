import unittest
from fractions import Fraction

from helping import BOXES, NO_NUMBERS, check_result, chord_ends, number, only_tuples, place, places_met, ratio, refused
from test_farplaces import some_ribbons
from test_shades import long_ribbon
from tautparcel.boxes import Box
from tautparcel.counts import face_counts
from tautparcel.errors import BadAxis, BadLevel, BadSlope
from tautparcel.lanes import lanes_of
from tautparcel.levels import Crossed, band_ribbon, level_moments
from tautparcel.ribbons import back_ribbon, least_ribbon, ribbon_begun, ribbon_of, same_ribbon
from tautparcel.wherelane import middle_ribbon

BOX = Box((2, 3, 5))
FAR = 10 ** 12
BAD_LEVELS = [thing for thing in NO_NUMBERS if thing != (1, 1)] + [
    (0, 1), (2, 1), (3, 1), (-1, 2), (1, FAR + 1), (2, 4), (1, 0), (True, 2), (1,), 1, (2 * FAR + 1, FAR),
]


def no_bands():
    return [ribbon for ribbon in some_ribbons() if ribbon.slope != (1, 0)]


def judged(ribbon, axis, level):
    """The moments at a level, by places a little before and behind."""
    found = []
    for _, start, end, moment in chord_ends(ribbon.passes):
        if start[axis] != end[axis] and (start[axis] - level) * (end[axis] - level) <= 0:
            part = (level - start[axis]) / (end[axis] - start[axis])
            if part < 1:
                length = [number(p.length) for p in ribbon if chord_ends([p])[0][1:3] == (start, end)][0]
                where = tuple(one + part * (far - one) for one, far in zip(start, end))
                found.append((ratio(moment + part * length), place(*where), end[axis] > start[axis]))
    return found


class Levels(unittest.TestCase):
    def test_pass_by_pass(self):
        edges = 0
        for ribbon in no_bands()[::3]:
            for axis in range(3):
                side = ribbon.box.sides[axis]
                at_edges = {number(taken.start[axis]) for taken in ribbon} - {0, side}
                for level in [Fraction(side, 3), Fraction(side, 2), Fraction(1, FAR), *sorted(at_edges)[:2]]:
                    found = level_moments(ribbon, axis, list(ratio(level)))
                    told = judged(ribbon, axis, level)
                    self.assertEqual([(one.moment, one.place, one.grows) for one in found], told)
                    self.assertTrue(only_tuples(found))
                    self.assertTrue(all(only_tuples((one.moment, one.place)) for one in found))
                    self.assertTrue(all(one.grows is True or one.grows is False for one in found))
                    edges += level in at_edges
        self.assertGreater(edges, 50)

    def test_as_many_at_all_levels_in_turn(self):
        for ribbon in no_bands():
            counts = face_counts(ribbon.faces)
            for axis in range(3):
                side = ribbon.box.sides[axis]
                for level in (Fraction(side, 5), side - Fraction(1, 7), number(ribbon.passes[2].start[axis])):
                    if 0 < level < side:
                        found = level_moments(ribbon, axis, ratio(level))
                        self.assertEqual(len(found), 2 * counts[2 * axis])
                        for one, other in zip(found, found[1:]):
                            self.assertLess(number(one.moment), number(other.moment))
                            self.assertNotEqual(one.grows, other.grows)
                        self.assertNotEqual(found[0].grows, found[-1].grows)

    def test_begun_elsewhere_and_backwards(self):
        for ribbon in no_bands()[::9]:
            found = {(one.place, one.grows) for one in level_moments(ribbon, 2, (1, 3))}
            begun = level_moments(ribbon_begun(ribbon, 3), 2, (1, 3))
            self.assertEqual({(one.place, one.grows) for one in begun}, found)
            back = level_moments(back_ribbon(ribbon), 2, (1, 3))
            self.assertEqual({(one.place, not one.grows) for one in back}, found)

    def test_many_passes(self):
        ribbon = long_ribbon()
        found = level_moments(ribbon, 1, (1, 2))
        self.assertEqual(len(found), 2 * ribbon.faces.count(2))
        steep = ribbon_of(Box((1, 1, 1)), place(0, "1/2", "1/3"), 0, (0, 40, 17))
        self.assertEqual(len(level_moments(steep, 1, (1, 2))), 2 * steep.faces.count(2))

    def test_far_bottoms(self):
        ribbon = no_bands()[0]
        for level in ((1, FAR), (FAR - 1, FAR)):
            found = level_moments(ribbon, 0, level)
            self.assertEqual(len(found), 2 * ribbon.faces.count(0))

    def test_refused_in_order(self):
        band = middle_ribbon(lanes_of(BOX, (1, 0)).lanes[0])
        refused(self, BadSlope, {"slope": (1, 0)}, level_moments, band, 3, None)
        ribbon = middle_ribbon(lanes_of(BOX, (2, 1)).lanes[0])
        for axis in NO_NUMBERS + [-1, 3]:
            refused(self, BadAxis, {"axis": axis}, level_moments, ribbon, axis, None)
            refused(self, BadAxis, {"axis": axis}, band_ribbon, BOX, axis, None)
        for level in BAD_LEVELS:
            refused(self, BadLevel, {"level": level}, level_moments, ribbon, 0, level)
            refused(self, BadLevel, {"level": level}, band_ribbon, BOX, 0, level)
        self.assertEqual(len(level_moments(ribbon, 1, (2, 1))), 2 * ribbon.faces.count(2))

    def test_it_is_a_result(self):
        check_result(self, Crossed, ["moment", "place", "grows"])


class Bands(unittest.TestCase):
    def test_they_lie_at_the_level(self):
        for box in BOXES:
            for axis in range(3):
                side = box.sides[axis]
                for level in (Fraction(side, 2), Fraction(side, 7), side - Fraction(1, FAR)):
                    band = band_ribbon(box, axis, list(ratio(level)))
                    self.assertEqual((band.slope, len(band)), ((1, 0), 4))
                    self.assertEqual({taken.start[axis] for taken in band}, {ratio(level)})
                    self.assertEqual(band.length, 2 * (sum(box.sides) - side))
                    self.assertEqual(band, least_ribbon(band))
                    first = band.passes[2]
                    self.assertTrue(same_ribbon(ribbon_of(box, first.start, first.face, first.direction), band))

    def test_common_places(self):
        for ribbon in no_bands()[::7]:
            for axis in range(3):
                level = ratio(Fraction(ribbon.box.sides[axis], 3))
                band = band_ribbon(ribbon.box, axis, level)
                met = [place(*where) for where in places_met(ribbon.passes, band.passes)]
                self.assertEqual(set(met), {one.place for one in level_moments(ribbon, axis, level)})


if __name__ == "__main__":
    unittest.main()
