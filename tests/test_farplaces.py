import unittest
from fractions import Fraction

from helping import (
    NO_NUMBERS, as_lists, check_result, chord_ends, moments_by_walking, number, only_tuples, place, point, ratio,
    refused,
)
from test_lanes import some_lanes
from test_shades import long_ribbon
from tautparcel.boxes import Box
from tautparcel.crossings import crossings_of
from tautparcel.errors import BadFace, BadLength, BadNth, BadPlace
from tautparcel.farplaces import (
    FarPlace, check_length, nth_pass, passes_on, place_after, times_at, when_at,
)
from tautparcel.lanes import lanes_of
from tautparcel.places import place_of_corner
from tautparcel.ribbons import back_ribbon, ribbon_begun, ribbon_of
from tautparcel.steps import Pass
from tautparcel.wherelane import middle_ribbon, ribbon_in

CUBE = Box((1, 1, 1))
BOX = Box((2, 3, 5))
FAR = 10 ** 12
BAD_LENGTHS = [thing for thing in NO_NUMBERS if thing != (1, 1)] + [
    (FAR + 1, 1), (-FAR - 1, 1), (FAR ** 2 + 1, FAR), (1, FAR + 1), (2, 4), (1, 0), (1, -2), (True, 2), (1,), (1, 2, 3),
    (0, 5), 7,
]


def some_ribbons():
    found = []
    for at, lanes in enumerate(some_lanes()[::4]):
        for index, lane in enumerate(lanes):
            if len(lane.faces) <= 100:
                ribbon = ribbon_begun(ribbon_in(lane, (1, 3)) if index % 2 else middle_ribbon(lane), (at + index) % 4)
                found.append(back_ribbon(ribbon) if index % 3 == 2 else ribbon)
    return found


def walked(ribbon, length):
    """The place, the index and the rounds after a length, walked pass by pass."""
    rounds = length // ribbon.length
    moment = length - rounds * ribbon.length
    for index, (_, start, _, begun) in enumerate(chord_ends(ribbon.passes)):
        gone = moment - begun
        if gone < number(ribbon.passes[index].length):
            where = tuple(one + gone * step for one, step in zip(start, ribbon.passes[index].direction))
            return FarPlace(place(*where), index, rounds)
    return None


class Lengths(unittest.TestCase):
    def test_good(self):
        for length in ((0, 1), (FAR, 1), (-FAR, 1), (1, FAR), (FAR * FAR - 1, FAR), (1 - FAR * FAR, FAR), (-7, 3)):
            self.assertEqual(check_length(list(length)), length)
            self.assertIs(type(check_length(list(length))), tuple)

    def test_refused(self):
        ribbon = some_ribbons()[0]
        for length in BAD_LENGTHS:
            refused(self, BadLength, {"length": length}, check_length, length)
            refused(self, BadLength, {"length": length}, place_after, ribbon, length)
            refused(self, BadLength, {"length": length}, passes_on, ribbon, 0, length)
            refused(self, BadLength, {"length": length}, times_at, ribbon, place(0, 0, 0), length)


class PlaceAfter(unittest.TestCase):
    def test_pass_by_pass(self):
        for ribbon in some_ribbons()[::3]:
            ends = [row[3] for row in chord_ends(ribbon.passes)]
            lengths = [*ends, *[end + Fraction(1, 7) for end in ends[:3]], Fraction(ribbon.length)]
            for length in lengths:
                for rounds in (0, 1, -1, 3, -2):
                    far = length + rounds * ribbon.length
                    found = place_after(ribbon, list(ratio(far)))
                    self.assertEqual(vars(found), vars(walked(ribbon, far)))
                    self.assertTrue(only_tuples(found.place))

    def test_ends_count_to_the_next_pass(self):
        ribbon = middle_ribbon(lanes_of(CUBE, (1, 1)).lanes[2])
        self.assertEqual(place_after(ribbon, (0, 1)), FarPlace(ribbon.passes[0].start, 0, 0))
        self.assertEqual(place_after(ribbon, ribbon.passes[0].length), FarPlace(ribbon.passes[1].start, 1, 0))
        self.assertEqual(place_after(ribbon, (3, 1)), FarPlace(ribbon.passes[0].start, 0, 1))
        self.assertEqual(place_after(ribbon, (-3, 1)), FarPlace(ribbon.passes[0].start, 0, -1))
        self.assertEqual(place_after(ribbon, (-1, 4)), walked(ribbon, Fraction(-1, 4)))
        self.assertEqual(place_after(ribbon, (-1, 4)).rounds, -1)

    def test_far(self):
        for ribbon in some_ribbons()[::9]:
            for length in (FAR, -FAR, FAR - 1, Fraction(1, FAR), -Fraction(1, FAR), Fraction(FAR * FAR - 1, FAR)):
                found = place_after(ribbon, ratio(length))
                self.assertEqual(vars(found), vars(walked(ribbon, Fraction(length))))
                near = Fraction(length) % ribbon.length
                self.assertEqual(walked(ribbon, near), FarPlace(found.place, found.index, 0))

    def test_many_passes(self):
        ribbon = long_ribbon()
        self.assertGreater(len(ribbon), 400)
        for length in (Fraction(0), Fraction(ribbon.length, 3), Fraction(ribbon.length * 5, 2), Fraction(-1, 9)):
            self.assertEqual(place_after(ribbon, ratio(length)), walked(ribbon, length))
        steep = ribbon_of(CUBE, place(0, "1/2", "1/3"), 0, (0, 40, 17))
        self.assertEqual(place_after(steep, (1, 2)), walked(steep, Fraction(1, 2)))

    def test_it_is_a_result(self):
        check_result(self, FarPlace, ["place", "index", "rounds"])


class Passes(unittest.TestCase):
    def test_nth(self):
        for ribbon in some_ribbons()[::5]:
            many = len(ribbon)
            for index in (0, 1, many - 1, many, -1, -many, 5 * many + 2, FAR, -FAR, FAR - 1):
                self.assertEqual(nth_pass(ribbon, index), ribbon.passes[index % many])
                self.assertIs(nth_pass(ribbon, index).__class__, Pass)
        for index in NO_NUMBERS + [FAR + 1, -FAR - 1]:
            refused(self, BadNth, {"number": index}, nth_pass, ribbon, index)

    def test_passes_on(self):
        for ribbon in some_ribbons()[::3]:
            begins = [(row[0], row[3]) for row in chord_ends(ribbon.passes)]
            ends = [begin for _, begin in begins[::3]]
            for face in range(6):
                for length in [*ends, Fraction(-1, 9), Fraction(1, 9), Fraction(5, 2) * ribbon.length]:
                    told = 0
                    for rounds in range(int(max(length, 0) // ribbon.length) + 1):
                        told += len([1 for at, begin in begins if at == face and
                                     begin + rounds * ribbon.length <= length])
                    self.assertEqual(passes_on(ribbon, face, as_lists(ratio(length))), told)

    def test_passes_on_far(self):
        ribbon = middle_ribbon(lanes_of(CUBE, (1, 1)).lanes[2])
        self.assertEqual(ribbon.faces, (0, 2, 5, 1, 3, 4))
        self.assertEqual([passes_on(ribbon, face, (0, 1)) for face in range(6)], [1, 0, 0, 0, 0, 0])
        self.assertEqual([passes_on(ribbon, face, (3, 1)) for face in range(6)], [2, 1, 1, 1, 1, 1])
        self.assertEqual(passes_on(ribbon, 0, (FAR, 1)), FAR // 3 + 1)
        self.assertEqual((passes_on(ribbon, 0, (-1, FAR)), passes_on(ribbon, 0, (-FAR, 1))), (0, 0))
        self.assertEqual(passes_on(long_ribbon(), 5, (-1, 2)), 0)

    def test_faces_refused_first(self):
        ribbon = some_ribbons()[0]
        for face in NO_NUMBERS + [-1, 6]:
            refused(self, BadFace, {"face": face}, passes_on, ribbon, face, None)


class At(unittest.TestCase):
    def places(self, ribbon):
        crossings = crossings_of(ribbon)[::4]
        return [crossing.place for crossing in crossings] + [
            ribbon.passes[0].start, ribbon.passes[-1].start, place_after(ribbon, (1, 7)).place, place(0, 0, "1/7"),
            place(1, "1/3", 0),
        ]

    def test_when(self):
        seen = {}
        for ribbon in some_ribbons()[::2]:
            for where in self.places(ribbon):
                told = tuple(ratio(moment) for moment in moments_by_walking(ribbon, point(where)))
                found = when_at(ribbon, as_lists(where))
                self.assertEqual(found, told)
                self.assertTrue(only_tuples(found))
                seen[len(found)] = True
                for moment in found:
                    self.assertEqual(place_after(ribbon, moment).place, where)
        self.assertEqual(sorted(seen), [0, 1, 2])

    def test_none_at_corners(self):
        for ribbon in some_ribbons()[::9]:
            for corner in range(8):
                self.assertEqual(when_at(ribbon, place_of_corner(ribbon.box, corner)), ())

    def test_many_passes(self):
        ribbon = long_ribbon()
        where = ribbon.passes[77].start
        found = when_at(ribbon, where)
        self.assertEqual([number(moment) for moment in found], moments_by_walking(ribbon, point(where)))
        self.assertIn(chord_ends(ribbon.passes)[77][3], [number(moment) for moment in found])

    def test_times(self):
        for ribbon in some_ribbons()[::3]:
            for where in self.places(ribbon):
                moments = moments_by_walking(ribbon, point(where))
                for length in [*moments, Fraction(0), Fraction(ribbon.length), Fraction(7, 3) * ribbon.length,
                               Fraction(-1, 5)]:
                    told = 0
                    for rounds in range(4):
                        told += len([1 for moment in moments if moment + rounds * ribbon.length <= length])
                    self.assertEqual(times_at(ribbon, where, list(ratio(length))), told)
        ribbon = middle_ribbon(lanes_of(CUBE, (1, 1)).lanes[2])
        start = ribbon.passes[0].start
        self.assertEqual(times_at(ribbon, start, (FAR, 1)), FAR // 3 + 1)
        self.assertEqual((times_at(ribbon, start, (0, 1)), times_at(ribbon, start, (-1, FAR))), (1, 0))

    def test_places_refused_first(self):
        ribbon = middle_ribbon(lanes_of(BOX, (2, 1)).lanes[0])
        for where in NO_NUMBERS + [(1, 2, 3), place(1, 1, 1), ((1, FAR + 1), (0, 1), (0, 1))]:
            refused(self, BadPlace, {"place": where}, when_at, ribbon, where)
            refused(self, BadPlace, {"place": where}, times_at, ribbon, where, None)


if __name__ == "__main__":
    unittest.main()
