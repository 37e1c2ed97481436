import unittest
from fractions import Fraction

from helping import (
    AXES, NO_NUMBERS, as_lists, check_result, faces_with, moments_by_walking, number, only_tuples, place, places_met,
    point, ratio, refused,
)
from test_lanes import some_lanes
from tautparcel.along import all_hows, led_box, led_corner, led_direction, led_face, led_place, scaled_box, scaled_place
from tautparcel.boxes import Box, all_edges, faces_of_corner, faces_of_edge
from tautparcel.crossings import crossings_between, crossings_of
from tautparcel.errors import BadLot, BadPlace, OnRibbon, TooMany
from tautparcel.lanes import lanes_of
from tautparcel.pieces import Piece, piece_at, pieces_of
from tautparcel.places import place_of_corner
from tautparcel.ribbons import back_ribbon, ribbon_begun, ribbon_of
from tautparcel.slopes import directions_on
from tautparcel.wherelane import middle_ribbon, ribbon_in

CUBE = Box((1, 1, 1))
BOX = Box((2, 3, 5))
TINY = Fraction(1, 10 ** 9)
KNOWN = []


def some_lots():
    """Lots of 1 to 6 ribbons with at most 80 passes together, begun anywhere, some of them gone backwards."""
    if not KNOWN:
        for at, lanes in enumerate(some_lanes()[::2]):
            for index, lane in enumerate(lanes):
                lot = [ribbon_begun(middle_ribbon(lane), 2), back_ribbon(ribbon_in(lane, (1, 3)))]
                for step, offset in ((2, (1, 4)), (3, (2, 5)), (4, (1, 2)), (6, (1, 7))):
                    if step < len(lanes):
                        lot.append(ribbon_in(lanes.lanes[(index + step) % len(lanes)], offset))
                lot = [ribbon for place, ribbon in enumerate(lot) if place <= (at + index) % 6]
                while sum(len(ribbon) for ribbon in lot) > 80:
                    lot.pop()
                if lot:
                    KNOWN.append(lot)
    return KNOWN


def sides_by(face, direction, where):
    first, second = AXES[face]
    return direction[first] * where[second] - direction[second] * where[first]


class Drawn:
    """A lot by Fractions: the sides of its lines on each face, and parts of places by the words of the promise."""
    def __init__(self, lot):
        self.sides = lot[0].box.sides
        self.directions = [directions_on(face, lot[0].slope)[:2] for face in range(6)]
        self.levels = [([], []) for _ in range(6)]
        for ribbon in lot:
            for taken in ribbon:
                for which, direction in enumerate(self.directions[taken.face]):
                    if taken.direction in (direction, tuple(-step for step in direction)):
                        side = sides_by(taken.face, direction, point(taken.start))
                        self.levels[taken.face][which].append(side)

    def part(self, face, where):
        counts = []
        for direction, levels in zip(self.directions[face], self.levels[face]):
            counts.append(len([level for level in levels if level < sides_by(face, direction, where)]))
        return (face, *counts)

    def polygons(self):
        """The corners of all parts, by clipping each face again for each part."""
        found = {}
        for face in range(6):
            first, second = [self.sides[axis] for axis in AXES[face]]
            spans = []
            for levels in self.levels[face]:
                ends = [None, *sorted(levels), None]
                spans.append(list(zip(ends, ends[1:])))
            for i, one in enumerate(spans[0]):
                for j, other in enumerate(spans[1]):
                    corners = [(0, 0), (first, 0), (first, second), (0, second)]
                    for (low, high), direction in zip((one, other), self.directions[face]):
                        corners = clipped(corners, [direction[axis] for axis in AXES[face]], low, 1)
                        corners = clipped(corners, [direction[axis] for axis in AXES[face]], high, -1)
                    if area(corners) > 0:
                        found[(face, i, j)] = area(corners)
        return found


def clipped(corners, direction, level, sign):
    """What of a polygon has sides from the level on (sign 1) or up to it (sign -1)."""
    if level is None:
        return corners
    found = []
    values = [sign * (direction[0] * v - direction[1] * u - level) for u, v in corners]
    for index, value in enumerate(values):
        (u0, v0), (u1, v1), before = corners[index - 1], corners[index], values[index - 1]
        if before * value < 0:
            part = Fraction(before) / (before - value)
            found.append((u0 + part * (u1 - u0), v0 + part * (v1 - v0)))
        if value >= 0:
            found.append(corners[index])
    return found


def area(corners):
    total = Fraction(0)
    for index, (u, v) in enumerate(corners):
        total += corners[index - 1][0] * v - corners[index - 1][1] * u
    return abs(total) / 2


def on_face(sides, face, u, v):
    where = [Fraction(sides[face // 2] * (face % 2))] * 3
    where[AXES[face][0]], where[AXES[face][1]] = Fraction(u), Fraction(v)
    return tuple(where)


def moved(where, *steps):
    return tuple(entry + TINY * sum(step[axis] for step in steps) for axis, entry in enumerate(where))


def crossing_places(lot):
    found = []
    for index, ribbon in enumerate(lot):
        found += places_met(ribbon.passes)
        for other in lot[:index]:
            found += places_met(ribbon.passes, other.passes)
    return found


class Parts(unittest.TestCase):
    def test_all_with_places_inside(self):
        for lot in some_lots()[::4]:
            told = Drawn(lot).polygons()
            pieces = pieces_of(lot)
            parts = [part for piece in pieces for part in piece.parts]
            self.assertEqual(sorted(parts), sorted(told))
            for piece in pieces:
                self.assertEqual(list(piece.parts), sorted(piece.parts))
                self.assertEqual(number(piece.area), sum(told[part] for part in piece.parts))
            firsts = [piece.parts for piece in pieces]
            self.assertEqual(firsts, sorted(firsts))
            self.assertTrue(only_tuples((pieces, tuple(firsts), pieces[0].bends, pieces[-1].corners, pieces[-1].area)))

    def test_a_band(self):
        ribbon = ribbon_of(CUBE, place("1/2", "1/3", 1), 5, (1, 0, 0))
        self.assertEqual(directions_on(5, (1, 0))[:2], ((-1, 0, 0), (0, -1, 0)))
        pieces = pieces_of([ribbon])
        # Over (-1, 0, 0) the side of a place is -y, so greater y has the lesser side.
        told = {part: piece for piece in pieces for part in piece.parts if part[0] == 5}
        self.assertEqual(sorted(told), [(5, 0, 0), (5, 1, 0)])
        one, other = told[(5, 0, 0)], told[(5, 1, 0)]
        self.assertEqual((one.corners, one.area), ((2, 3, 6, 7), (11, 3)))
        self.assertEqual((other.corners, other.area), ((0, 1, 4, 5), (7, 3)))
        self.assertEqual((one.holes, other.holes, one.bends, other.bends), (0, 0, (), ()))


class Together(unittest.TestCase):
    def test_over_each_bit_of_each_edge(self):
        for lot in some_lots()[::2]:
            drawn, pieces = Drawn(lot), pieces_of(lot)
            home = {part: index for index, piece in enumerate(pieces) for part in piece.parts}
            links = {index: set() for index in range(len(home))}
            names = sorted(home)
            for low, high in all_edges():
                ends = [point(place_of_corner(lot[0].box, corner)) for corner in (low, high)]
                axis = [axis for axis in range(3) if ends[0][axis] != ends[1][axis]][0]
                cuts = {point(taken.start) for ribbon in lot for taken in ribbon}
                cuts = [cut for cut in cuts if all(cut[k] == ends[0][k] for k in range(3) if k != axis)]
                cuts = sorted([*ends, *cuts])
                for one, other in zip(cuts, cuts[1:]):
                    middle = tuple((a + b) / 2 for a, b in zip(one, other))
                    parts = [drawn.part(face, middle) for face in faces_of_edge((low, high))]
                    self.assertEqual(home[parts[0]], home[parts[1]])
                    first, second = [names.index(part) for part in parts]
                    links[first].add(second)
                    links[second].add(first)
            lots, seen = 0, set()
            for start in links:
                if start not in seen:
                    lots += 1
                    ahead = [start]
                    while ahead:
                        here = ahead.pop()
                        if here not in seen:
                            seen.add(here)
                            ahead += links[here]
            self.assertEqual(len(pieces), lots)

    def test_corners(self):
        for lot in some_lots():
            drawn, pieces = Drawn(lot), pieces_of(lot)
            self.assertEqual(sorted(corner for piece in pieces for corner in piece.corners), list(range(8)))
            for piece in pieces:
                self.assertEqual(list(piece.corners), sorted(piece.corners))
                for corner in piece.corners:
                    for face in faces_of_corner(corner):
                        where = point(place_of_corner(lot[0].box, corner))
                        self.assertIn(drawn.part(face, where), piece.parts)

    def test_bends(self):
        """Of the four right angles at each crossing, each one in the piece just beside the place."""
        edges = 0
        for lot in some_lots()[::5]:
            sides, slope = lot[0].box.sides, lot[0].slope
            drawn, pieces = Drawn(lot), pieces_of(lot)
            home = {part: index for index, piece in enumerate(pieces) for part in piece.parts}
            told = [[] for _ in pieces]
            for where in crossing_places(lot):
                faces = faces_with(sides, where)
                edges += len(faces) == 2
                for face in faces:
                    first, second = drawn.directions[face]
                    for one in (first, tuple(-step for step in first)):
                        for other in (second, tuple(-step for step in second)):
                            beside = [faces_with(sides, moved(where, *steps)) for steps in ((one,), (other,))]
                            near = moved(where, one, other)
                            inside = all(0 <= entry <= side for entry, side in zip(near, sides))
                            if inside and beside == [[face], [face]] and all(
                                0 <= e <= s for step in (one, other) for e, s in zip(moved(where, step), sides)
                            ):
                                told[home[drawn.part(face, near)]].append(where)
                if len(faces) == 2:
                    axis = [axis for axis in range(3) if axis not in (faces[0] // 2, faces[1] // 2)][0]
                    for sign in (1, -1):
                        along = [0, 0, 0]
                        along[axis] = sign
                        told[home[drawn.part(faces[0], moved(where, along))]].append(where)
            for piece, places in zip(pieces, told):
                self.assertEqual(piece.bends, tuple(place(*where) for where in sorted(places)), slope)
            self.assertEqual(sum(len(piece.bends) for piece in pieces), 4 * len(crossing_places(lot)))
        self.assertGreater(edges, 10)


class Sums(unittest.TestCase):
    def test_corners_and_bends(self):
        kinds = {}
        for lot in some_lots():
            pieces = pieces_of(lot)
            many = sum(len(crossings_of(ribbon)) for ribbon in lot)
            many += sum(len(crossings_between(lot[i], lot[j])) for i in range(len(lot)) for j in range(i))
            # As many as crossings and one, and one for each lot of ribbons that hang together.
            self.assertEqual(len(pieces), many + 1 + (1 if many else len(lot)))
            self.assertEqual(sum(number(piece.area) for piece in pieces), lot[0].box.skin_area)
            for piece in pieces:
                self.assertEqual(len(piece.corners) + len(piece.bends), 4 - 4 * piece.holes)
                self.assertIn(piece.holes, (0, 1))
                if not piece.corners and not piece.holes:
                    self.assertEqual(len(piece.bends), 4)
                kinds[(len(piece.corners), piece.holes)] = True
                self.assertGreater(number(piece.area), 0)
        self.assertEqual(sorted(kinds), [(0, 0), (0, 1), (1, 0), (2, 0), (3, 0), (4, 0)])

    def test_a_strip_with_a_hole(self):
        """Only between ribbons of one lane that do not cross themselves."""
        lane = lanes_of(CUBE, (1, 1)).lanes[0]
        for offsets in (((1, 3), (1, 2)), ((1, 4), (1, 2), (7, 8))):
            ribbons = [ribbon_in(lane, offset) for offset in offsets]
            pieces = pieces_of(ribbons)
            strips = [piece for piece in pieces if piece.holes]
            self.assertEqual(len(strips), len(ribbons) - 1)
            told = [lane.length * (number(b) - number(a)) for a, b in zip(offsets, offsets[1:])]
            self.assertEqual(sorted(number(piece.area) for piece in strips), sorted(told))
            self.assertEqual([(piece.corners, piece.bends) for piece in strips], [((), ())] * len(strips))
            self.assertEqual(sorted(len(piece.corners) for piece in pieces if not piece.holes), [4, 4])
        for lot in some_lots():
            holes = len([piece for piece in pieces_of(lot) if piece.holes])
            crossed = crossing_places(lot) if len(lot) < 3 else [1]
            self.assertEqual(holes, 0 if crossed else len(lot) - 1)

    def test_one_ribbon_of_many_passes(self):
        full = middle_ribbon(lanes_of(Box((9, 7, 9)), (9, 7)).lanes[0])
        pieces = pieces_of((full,))
        self.assertEqual(len(pieces), len(crossings_of(full)) + 2)
        self.assertEqual(sum(number(piece.area) for piece in pieces), Box((9, 7, 9)).skin_area)

    def test_the_same_begun_elsewhere(self):
        for lot in some_lots()[::9]:
            other = [ribbon_begun(back_ribbon(ribbon), 1) for ribbon in lot]
            self.assertEqual(pieces_of(tuple(other[::-1])), pieces_of(lot))

    def test_led_along(self):
        for lot in some_lots()[2::25]:
            box = lot[0].box
            pieces = pieces_of(lot)
            for how in all_hows()[::9]:
                led = []
                for ribbon in lot:
                    first = ribbon.passes[0]
                    led.append(ribbon_of(
                        led_box(box, how), led_place(box, first.start, how), led_face(first.face, how),
                        led_direction(first.face, first.direction, how),
                    ))
                told = [(tuple(sorted(led_corner(corner, how) for corner in piece.corners)), piece.area, piece.holes,
                         sorted(led_place(box, where, how) for where in piece.bends)) for piece in pieces]
                found = [(piece.corners, piece.area, piece.holes, sorted(piece.bends)) for piece in pieces_of(led)]
                self.assertEqual(sorted(found), sorted(told))
            starts = [(ribbon.passes[0], scaled_place(box, ribbon.passes[0].start, 2)) for ribbon in lot]
            larger = [ribbon_of(scaled_box(box, 2), where, first.face, first.direction) for first, where in starts]
            for piece, other in zip(pieces, pieces_of(larger)):
                self.assertEqual((other.parts, other.corners, other.holes), (piece.parts, piece.corners, piece.holes))
                self.assertEqual(number(other.area), 4 * number(piece.area))

    def test_lots_refused(self):
        one = middle_ribbon(lanes_of(CUBE, (1, 1)).lanes[0])
        lane = lanes_of(Box((9, 7, 9)), (9, 7)).lanes[0]
        for call in (pieces_of, lambda lot: piece_at(lot, None)):
            for lot in (None, [], (), [one] * 7):
                refused(self, BadLot, {"index": 0, "what": "many"}, call, lot)
            refused(self, BadLot, {"index": 1, "what": "same"}, call, [one, back_ribbon(one)])
            refused(self, TooMany, {"most": 400}, call, [middle_ribbon(lane), ribbon_in(lane, (1, 3))])

    def test_it_is_a_result(self):
        check_result(self, Piece, ["parts", "corners", "bends", "holes", "area"])


class PieceAt(unittest.TestCase):
    def places(self, lot):
        """Places inside faces and on edges, and all corners."""
        sides = lot[0].box.sides
        found = [point(place_of_corner(lot[0].box, corner)) for corner in range(8)]
        for face in range(6):
            first, second = [sides[axis] for axis in AXES[face]]
            for u, v in ((Fraction(first, 7), Fraction(second, 11)), (Fraction(first, 2), Fraction(second, 2)),
                         (Fraction(0), Fraction(second, 3)), (Fraction(first, 5), Fraction(second))):
                found.append(on_face(sides, face, u, v))
        return found + [point(lot[-1].passes[3].start), point(lot[0].passes[0].end)]

    def test_by_parts(self):
        refusals = edges = 0
        for lot in some_lots()[::9]:
            drawn, pieces = Drawn(lot), pieces_of(lot)
            for where in self.places(lot):
                on = [index for index, ribbon in enumerate(lot) if moments_by_walking(ribbon, where)]
                given = as_lists(place(*where))
                if on:
                    refused(self, OnRibbon, {"place": given, "number": on[0]}, piece_at, lot, given)
                    refusals += 1
                    continue
                found = piece_at(lot, given)
                edges += len(faces_with(lot[0].box.sides, where)) == 2
                for face in faces_with(lot[0].box.sides, where):
                    self.assertIn(drawn.part(face, where), pieces[found].parts)
        self.assertGreater(refusals, 50)
        self.assertGreater(edges, 150)

    def test_corners(self):
        for lot in some_lots()[::7]:
            for corner in range(8):
                index = piece_at(lot, place_of_corner(lot[0].box, corner))
                self.assertIn(corner, pieces_of(lot)[index].corners)

    def test_on_two_ribbons(self):
        lot = [middle_ribbon(lane) for lane in lanes_of(CUBE, (1, 1)).lanes[:6:2]]
        where = crossings_between(lot[1], lot[2])[0].place
        refused(self, OnRibbon, {"place": where, "number": 1}, piece_at, lot, where)
        refused(self, OnRibbon, {"place": where, "number": 0}, piece_at, lot[1:], where)

    def test_places_refused(self):
        lot = [middle_ribbon(lanes_of(BOX, (2, 1)).lanes[0])]
        for where in NO_NUMBERS + [(1, 2, 3), place(1, 1, 1), ((1, 10 ** 13), (0, 1), (0, 1))]:
            refused(self, BadPlace, {"place": where}, piece_at, lot, where)
        self.assertEqual(piece_at(lot, (ratio(Fraction(1, 10 ** 12)), (0, 1), (0, 1))), piece_at(lot, place(0, 0, 0)))


if __name__ == "__main__":
    unittest.main()
