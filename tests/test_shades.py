import unittest

from helping import (
    NO_NUMBERS, as_lists, check_result, faces_with, number, only_tuples, place, point, refused,
)
from test_lanes import some_lanes
from tautparcel.along import all_hows, keeps_sense, led_box, led_corner, led_direction, led_face, led_place
from tautparcel.boxes import Box
from tautparcel.crossings import crossings_of
from tautparcel.errors import BadPlace, CrossesItself, NotCrossed, TooMany
from tautparcel.lanes import lanes_of
from tautparcel.places import place_of_corner
from tautparcel.ribbons import back_ribbon, ribbon_begun, ribbon_of
from tautparcel.shades import Loop, loop_at, shades_of_corners, sides_of
from tautparcel.taut import slide_of
from tautparcel.wherelane import middle_ribbon, ribbon_in

CUBE = Box((1, 1, 1))
BOX = Box((2, 3, 5))
LONG = Box((8, 9, 3))


def long_ribbon():
    return ribbon_of(LONG, place("1/2", "1/3", 3), 5, (5, 9, 0))


def some_ribbons():
    found = []
    for lanes in some_lanes():
        for index, lane in enumerate(lanes):
            if len(lane.faces) <= 150:
                ribbon = ribbon_in(lane, (1, 3)) if index % 3 else middle_ribbon(lane)
                found.append((lanes, lane, ribbon_begun(ribbon, index % len(ribbon))))
    return found


def shades_by_starts(box, starts):
    """The shades if a line goes over the edges at which these places lie, corner by corner along edges."""
    shades = [0] * 8
    for corner in range(1, 8):
        bit = corner & -corner
        near = corner - bit
        one, other = [point(place_of_corner(box, end)) for end in (near, corner)]
        axis = [axis for axis in range(3) if one[axis] != other[axis]][0]
        met = [where for where in starts if all(where[k] == one[k] for k in range(3) if k != axis)]
        shades[corner] = (shades[near] + len(met)) % 2
    return tuple(shades)


class Shades(unittest.TestCase):
    def test_along_edges(self):
        for lanes, _, ribbon in some_ribbons():
            found = shades_of_corners(ribbon)
            self.assertEqual(found, shades_by_starts(lanes.box, [point(taken.start) for taken in ribbon]))
            self.assertIs(type(found), tuple)
            self.assertEqual((len(found), found[0]), (8, 0))

    def test_how_many(self):
        for _, _, ribbon in some_ribbons()[::2]:
            many = len(crossings_of(ribbon))
            shaded = sum(shades_of_corners(ribbon))
            self.assertEqual(shaded % 4, 2 * many % 4)
            if many == 0:
                self.assertEqual(shaded, 4)

    def test_small_ones(self):
        ribbon = middle_ribbon(lanes_of(CUBE, (1, 0)).lanes[0])
        self.assertEqual(ribbon.faces, (0, 2, 1, 3))
        self.assertEqual(shades_of_corners(ribbon), (0, 1, 0, 1, 0, 1, 0, 1))
        ribbon = middle_ribbon(lanes_of(CUBE, (1, 1)).lanes[2])
        self.assertEqual(ribbon.faces, (0, 2, 5, 1, 3, 4))
        # It goes over the edges (0, 1), (1, 5), (5, 7), (6, 7), (2, 6) and (0, 2).
        self.assertEqual(shades_of_corners(ribbon), (0, 1, 1, 1, 0, 0, 0, 1))

    def test_begun_elsewhere_and_backwards(self):
        for _, _, ribbon in some_ribbons()[::5]:
            told = shades_of_corners(ribbon)
            self.assertEqual(shades_of_corners(ribbon_begun(ribbon, 2)), told)
            self.assertEqual(shades_of_corners(back_ribbon(ribbon)), told)

    def test_too_many(self):
        ribbon = long_ribbon()
        self.assertGreater(len(ribbon), 400)
        refused(self, TooMany, {"most": 400}, shades_of_corners, ribbon)
        refused(self, TooMany, {"most": 400}, sides_of, ribbon)
        refused(self, TooMany, {"most": 400}, loop_at, ribbon, None)
        full = middle_ribbon(lanes_of(Box((9, 7, 9)), (9, 7)).lanes[0])
        self.assertEqual(len(shades_of_corners(full)), 8)


class Sides(unittest.TestCase):
    def test_the_corners_that_the_lane_passes(self):
        many = 0
        for _, lane, ribbon in some_ribbons():
            if crossings_of(ribbon):
                continue
            left, right = sides_of(ribbon)
            slide = slide_of(lane)
            self.assertLessEqual({corner for _, corner in slide.left}, set(left))
            self.assertLessEqual({corner for _, corner in slide.right}, set(right))
            self.assertEqual((len(left), len(right), sorted(left + right)), (4, 4, list(range(8))))
            self.assertEqual((list(left), list(right)), (sorted(left), sorted(right)))
            shades = shades_of_corners(ribbon)
            self.assertEqual(({shades[c] for c in left} | {shades[c] for c in right}), {0, 1})
            self.assertEqual(len({shades[c] for c in left}), 1)
            self.assertTrue(only_tuples(sides_of(ribbon)))
            many += 1
        self.assertGreater(many, 60)

    def test_backwards_and_begun_anywhere(self):
        for _, _, ribbon in some_ribbons()[::3]:
            if not crossings_of(ribbon):
                left, right = sides_of(ribbon)
                self.assertEqual(sides_of(back_ribbon(ribbon)), (right, left))
                for index in range(len(ribbon)):
                    self.assertEqual(sides_of(ribbon_begun(ribbon, index)), (left, right))

    def test_bands(self):
        ribbon = ribbon_of(BOX, place(1, "1/3", 5), 5, (1, 0, 0))
        # Seen from above, the ribbon goes towards greater x with greater y on its left.
        self.assertEqual(sides_of(ribbon), ((2, 3, 6, 7), (0, 1, 4, 5)))

    def test_refused_if_it_crosses_itself(self):
        many = 0
        for _, _, ribbon in some_ribbons():
            crossings = crossings_of(ribbon)
            if crossings:
                refused(self, CrossesItself, {"place": crossings[0].place}, sides_of, ribbon)
                many += 1
        self.assertGreater(many, 60)

    def test_led_along(self):
        for _, _, ribbon in some_ribbons()[::40]:
            first, box = ribbon.passes[0], ribbon.box
            for how in all_hows()[::7]:
                led = ribbon_of(led_box(box, how), led_place(box, first.start, how), led_face(first.face, how),
                                led_direction(first.face, first.direction, how))
                if not crossings_of(ribbon):
                    sides = [tuple(sorted(led_corner(corner, how) for corner in side)) for side in sides_of(ribbon)]
                    self.assertEqual(list(sides_of(led)), sides if keeps_sense(how) else sides[::-1])


class Loops(unittest.TestCase):
    def test_two_loops_make_the_ribbon(self):
        """A line goes over the loop and over the rest of the ribbon as often as over all of it."""
        edges = inner = 0
        for lanes, _, ribbon in some_ribbons()[::3]:
            shades = shades_of_corners(ribbon)
            for crossing in crossings_of(ribbon)[::4]:
                loop = loop_at(ribbon, as_lists(crossing.place))
                starts, moment = [], 0
                for taken in ribbon:
                    starts.append(moment)
                    moment += number(taken.length)
                after = [at for at, start in enumerate(starts) if number(crossing.first) < start]
                index = [at for at in after if starts[at] <= number(crossing.second)]
                if not index:
                    continue
                rest = loop_at(ribbon_begun(ribbon, index[0]), crossing.place)
                if number(rest.second) - number(rest.first) == number(loop.second) - number(loop.first):
                    continue
                told = [(corner in loop.others) != (corner in rest.others) for corner in range(8)]
                self.assertEqual(told, [shade == 1 for shade in shades])
                on_edge = len(faces_with(lanes.box.sides, point(crossing.place))) == 2
                edges += on_edge
                inner += not on_edge
        self.assertGreater(edges, 20)
        self.assertGreater(inner, 200)

    def test_odd_numbers_of_corners(self):
        plain = 0
        for _, _, ribbon in some_ribbons()[::3]:
            crossings = crossings_of(ribbon)
            for crossing in crossings[::3]:
                loop = loop_at(ribbon, crossing.place)
                self.assertEqual((loop.place, loop.first, loop.second),
                                 (crossing.place, crossing.first, crossing.second))
                self.assertEqual(sorted(loop.corners + loop.others), list(range(8)))
                self.assertEqual((list(loop.corners), list(loop.others)), (sorted(loop.corners), sorted(loop.others)))
                self.assertEqual((len(loop.corners) % 2, loop.corners[0]), (1, 0))
                self.assertTrue(only_tuples((loop.place, loop.corners, loop.others)))
                first, second = number(crossing.first), number(crossing.second)
                if not [one for one in crossings if first < number(one.first) and number(one.second) < second]:
                    self.assertEqual({len(loop.corners), len(loop.others)}, {3, 5})
                    plain += 1
        self.assertGreater(plain, 60)

    def test_by_starts_between(self):
        """The edges of a loop inside a face are those of the passes that begin between its moments."""
        for lanes, _, ribbon in some_ribbons()[::7]:
            for crossing in crossings_of(ribbon)[::3]:
                if len(faces_with(lanes.box.sides, point(crossing.place))) == 1:
                    starts, moment = [], 0
                    for taken in ribbon:
                        if number(crossing.first) < moment < number(crossing.second):
                            starts.append(point(taken.start))
                        moment += number(taken.length)
                    shades = shades_by_starts(lanes.box, starts)
                    loop = loop_at(ribbon, crossing.place)
                    self.assertEqual(loop.others, tuple(corner for corner in range(8) if shades[corner]))

    def test_on_an_edge(self):
        """Both kinds: a loop that goes over its edge, and one that stays on one side of it."""
        kinds = {}
        for lanes, _, ribbon in some_ribbons():
            starts, moment = {}, 0
            for index, taken in enumerate(ribbon):
                starts.setdefault(taken.start, []).append((moment, index))
                moment += number(taken.length)
            for where, met in starts.items():
                if len(met) == 2:
                    (_, leaving), (_, coming) = met
                    over = ribbon.faces[leaving] != ribbon.faces[coming - 1]
                    between = [point(taken.start) for taken in ribbon.passes[leaving + 1:coming]]
                    shades = shades_by_starts(lanes.box, between + [point(where)] * over)
                    loop = loop_at(ribbon, where)
                    self.assertEqual(loop.others, tuple(corner for corner in range(8) if shades[corner]))
                    kinds[over] = kinds.get(over, 0) + 1
        self.assertGreater(min(kinds.get(True, 0), kinds.get(False, 0)), 5)

    def test_refused_in_order(self):
        ribbon = middle_ribbon(lanes_of(BOX, (3, 2)).lanes[0])
        for where in NO_NUMBERS + [(1, 2, 3), place(1, 1, 1)]:
            refused(self, BadPlace, {"place": where}, loop_at, ribbon, where)
        plain = middle_ribbon(lanes_of(CUBE, (1, 1)).lanes[0])
        for where in (place("1/3", "1/7", 1), plain.passes[0].start, place(0, 0, 0)):
            refused(self, NotCrossed, {"place": where}, loop_at, plain, where)
        at_once = [taken.start for taken in ribbon if taken.start not in [c.place for c in crossings_of(ribbon)]]
        refused(self, NotCrossed, {"place": at_once[0]}, loop_at, ribbon, at_once[0])

    def test_it_is_a_result(self):
        check_result(self, Loop, ["place", "first", "second", "corners", "others"])


if __name__ == "__main__":
    unittest.main()
