import unittest
from fractions import Fraction

from helping import (
    AXES, NO_NUMBERS, as_lists, check_result, chord_ends, moments_by_walking, number, only_tuples, place, ratio,
    refused,
)
from test_pieces import TINY, Drawn, crossing_places, some_lots
from tautparcel.arcs import Arc, arcs_of, shades_of_pieces, way_apart
from tautparcel.boxes import Box
from tautparcel.crossings import crossings_between, crossings_of
from tautparcel.errors import BadLot, BadPlace, OnRibbon, TooMany
from tautparcel.lanes import lanes_of
from tautparcel.pieces import piece_at, pieces_of
from tautparcel.places import place_of_corner
from tautparcel.ribbons import back_ribbon, ribbon_begun, ribbon_of
from tautparcel.shades import shades_of_corners
from tautparcel.wherelane import middle_ribbon, ribbon_in

CUBE = Box((1, 1, 1))
BOX = Box((2, 3, 5))


def along(ribbon, moment):
    """The pass on which a moment lies, and the place there, by Fractions."""
    moment %= ribbon.length
    rows = list(zip(ribbon, chord_ends(ribbon.passes)))
    taken, (_, start, _, begun) = [row for row in rows if row[1][3] <= moment][-1]
    return (taken, tuple(one + (moment - begun) * step for one, step in zip(start, taken.direction)))


def beside(drawn, ribbon, moment):
    """The parts just to the left and just to the right of a ribbon just behind a moment."""
    taken, where = along(ribbon, moment + TINY)
    first, second = AXES[taken.face]
    left = [0, 0, 0]
    left[first], left[second] = -taken.direction[second], taken.direction[first]
    parts = []
    for sign in (1, -1):
        near = tuple(entry + sign * TINY * TINY * step for entry, step in zip(where, left))
        parts.append(drawn.part(taken.face, near))
    return parts


class Arcs(unittest.TestCase):
    def test_between_crossings(self):
        for lot in some_lots()[::10]:
            drawn, pieces = Drawn(lot), pieces_of(lot)
            home = {part: index for index, piece in enumerate(pieces) for part in piece.parts}
            places = crossing_places(lot)
            told = []
            for index, ribbon in enumerate(lot):
                moments = sorted(moment for where in places for moment in moments_by_walking(ribbon, where))
                moments = moments or [Fraction(0)]
                for one, other in zip(moments, moments[1:] + [moments[0] + ribbon.length]):
                    left, right = [home[part] for part in beside(drawn, ribbon, one)]
                    told.append(Arc(index, ratio(one), ratio(other - one), left, right))
            found = arcs_of(lot)
            self.assertEqual([vars(arc) for arc in found], [vars(arc) for arc in told])
            self.assertTrue(only_tuples(found))
            self.assertTrue(all(only_tuples((arc.moment, arc.length)) for arc in found))

    def test_without_crossings(self):
        lanes = lanes_of(CUBE, (1, 1))
        lot = [ribbon_begun(middle_ribbon(lanes.lanes[0]), 2), back_ribbon(ribbon_in(lanes.lanes[0], (1, 3)))]
        one, other = arcs_of(lot)
        self.assertEqual((one.number, one.moment, one.length), (0, (0, 1), (3, 1)))
        self.assertEqual((other.number, other.moment, other.length), (1, (0, 1), (3, 1)))
        strip = [index for index, piece in enumerate(pieces_of(lot)) if piece.holes][0]
        # The second ribbon lies to the right of the first one, and is gone backwards.
        self.assertEqual((one.right, other.right), (strip, strip))
        self.assertEqual(len({one.left, other.left, strip}), 3)

    def test_the_last_one_goes_on_beyond_the_end(self):
        beyond = 0
        for lot in some_lots()[::2]:
            arcs = arcs_of(lot)
            for index, ribbon in enumerate(lot):
                own = [arc for arc in arcs if arc.number == index]
                ends = [number(arc.moment) + number(arc.length) for arc in own]
                self.assertEqual(ends[:-1], [number(arc.moment) for arc in own[1:]])
                self.assertEqual(ends[-1], number(own[0].moment) + ribbon.length)
                beyond += ends[-1] > ribbon.length
            self.assertEqual([arc.number for arc in arcs], sorted(arc.number for arc in arcs))
        self.assertGreater(beyond, 100)

    def test_as_many_as_bends(self):
        rectangles = strips = 0
        for lot in some_lots():
            first, second = lot[0].slope
            pieces = pieces_of(lot)
            rims = [[] for _ in pieces]
            for arc in arcs_of(lot):
                self.assertNotEqual(arc.left, arc.right)
                rims[arc.left].append(arc)
                rims[arc.right].append(arc)
            for piece, rim in zip(pieces, rims):
                if piece.bends:
                    self.assertEqual(len(rim), len(piece.bends))
                if piece.holes:
                    one, other = [lot[arc.number] for arc in rim]
                    self.assertEqual([number(arc.length) for arc in rim], [one.length, other.length])
                    strips += 1
                elif not piece.corners:
                    lengths = sorted(number(arc.length) for arc in rim)
                    self.assertEqual((lengths[0], lengths[2]), (lengths[1], lengths[3]))
                    self.assertEqual(number(piece.area), lengths[0] * lengths[2] * (first ** 2 + second ** 2))
                    rectangles += 1
        self.assertGreater(rectangles, 1000)
        self.assertGreater(strips, 10)

    def test_begun_at_a_crossing_on_an_edge(self):
        met = 0
        for lot in some_lots():
            crossings = {crossing.place for crossing in crossings_of(lot[0])}
            starts = [index for index, taken in enumerate(lot[0]) if taken.start in crossings]
            if starts:
                begun = ribbon_begun(lot[0], starts[0])
                arcs = arcs_of([begun])
                self.assertEqual(arcs[0].moment, (0, 1))
                self.assertEqual(number(arcs[-1].moment) + number(arcs[-1].length), begun.length)
                met += 1
        self.assertGreater(met, 10)

    def test_of_a_mirrored_box(self):
        """Left and right are exchanged by a mirror."""
        lanes = lanes_of(BOX, (2, 1))
        lot = [middle_ribbon(lanes.lanes[0]), ribbon_in(lanes.lanes[2], (1, 3))]
        led = []
        for ribbon in lot:
            first = ribbon.passes[0]
            where = place(2 - number(first.start[0]), number(first.start[1]), number(first.start[2]))
            face = first.face ^ 1 if first.face < 2 else first.face
            led.append(ribbon_of(BOX, where, face, (-first.direction[0], *first.direction[1:])))
        one, other = pieces_of(lot), pieces_of(led)
        for arc, mate in zip(arcs_of(lot), arcs_of(led)):
            self.assertEqual((arc.number, arc.moment, arc.length), (mate.number, mate.moment, mate.length))
            self.assertEqual(one[arc.left].area, other[mate.right].area)
            self.assertEqual(sorted(corner ^ 4 for corner in one[arc.left].corners), list(other[mate.right].corners))

    def test_lots_refused(self):
        one = middle_ribbon(lanes_of(CUBE, (1, 1)).lanes[0])
        lane = lanes_of(Box((9, 7, 9)), (9, 7)).lanes[0]
        for call in (arcs_of, shades_of_pieces, lambda lot: way_apart(lot, None, None)):
            for lot in (None, [], (), [one] * 7):
                refused(self, BadLot, {"index": 0, "what": "many"}, call, lot)
            refused(self, BadLot, {"index": 1, "what": "same"}, call, [one, back_ribbon(one)])
            refused(self, TooMany, {"most": 400}, call, [middle_ribbon(lane), ribbon_in(lane, (1, 3))])
        self.assertEqual(len(arcs_of((middle_ribbon(lane),))), 2 * len(crossings_of(middle_ribbon(lane))))

    def test_it_is_a_result(self):
        check_result(self, Arc, ["number", "moment", "length", "left", "right"])


class Shades(unittest.TestCase):
    def test_unlike_at_each_arc(self):
        for lot in some_lots():
            shades = shades_of_pieces(lot)
            pieces = pieces_of(lot)
            self.assertIs(type(shades), tuple)
            self.assertEqual(len(shades), len(pieces))
            for arc in arcs_of(lot)[::3]:
                self.assertEqual({shades[arc.left], shades[arc.right]}, {0, 1})
            # Those of the corners are the shades that all ribbons together give them.
            told = [sum(shades_of_corners(ribbon)[corner] for ribbon in lot) % 2 for corner in range(8)]
            found = [None] * 8
            for piece, shade in zip(pieces, shades):
                for corner in piece.corners:
                    found[corner] = shade
            self.assertEqual(found, told)
            self.assertEqual(found[0], 0)

    def test_how_many_corners(self):
        for lot in some_lots()[::2]:
            many = sum(len(crossings_of(ribbon)) for ribbon in lot)
            many += sum(len(crossings_between(lot[i], lot[j])) for i in range(len(lot)) for j in range(i))
            held = sum(
                len(piece.corners) for piece, shade in zip(pieces_of(lot), shades_of_pieces(lot)) if shade
            )
            self.assertEqual(held % 4, 2 * many % 4)


class Ways(unittest.TestCase):
    def test_the_least_of_the_shortest(self):
        lengths = {}
        for lot in some_lots()[::9]:
            shades = shades_of_pieces(lot)
            next_to = {index: set() for index in range(len(shades))}
            for arc in arcs_of(lot):
                next_to[arc.left].add(arc.right)
                next_to[arc.right].add(arc.left)
            corners = [place_of_corner(lot[0].box, corner) for corner in range(8)]
            for one, other in ((0, 7), (7, 0), (1, 6), (2, 2)):
                start, finish = [piece_at(lot, corners[corner]) for corner in (one, other)]
                ways, reached = [(start,)], {start}
                while not [way for way in ways if way[-1] == finish]:
                    ways = [(*way, after) for way in ways for after in next_to[way[-1]] if after not in reached]
                    best = {}
                    for way in ways:
                        best[way[-1]] = min(way, best.get(way[-1], way))
                    reached |= set(best)
                    ways = list(best.values())
                found = way_apart(lot, corners[one], as_lists(corners[other]))
                self.assertEqual(found, min(way for way in ways if way[-1] == finish))
                self.assertEqual(len(found) % 2 == 1, shades[start] == shades[finish])
                self.assertIs(type(found), tuple)
                lengths[len(found)] = True
        self.assertGreater(len(lengths), 4)

    def test_one_piece(self):
        lot = [middle_ribbon(lanes_of(CUBE, (1, 0)).lanes[0])]
        self.assertEqual(way_apart(lot, place(0, 0, 0), place(1, "1/2", 0)), (0,))
        self.assertEqual(way_apart(lot, place(0, 0, 0), place(0, 0, 1)), (0, 1))
        self.assertEqual(way_apart(lot, place(0, 0, 1), place(0, 0, 0)), (1, 0))

    def test_places_refused_in_order(self):
        lot = [middle_ribbon(lane) for lane in lanes_of(CUBE, (1, 1)).lanes[:6:2]]
        good, met = place(0, 0, 0), crossings_between(lot[1], lot[2])[0].place
        for where in NO_NUMBERS + [(1, 2, 3), place("1/2", "1/2", "1/2")]:
            refused(self, BadPlace, {"place": where}, way_apart, lot, where, met)
            refused(self, BadPlace, {"place": where}, way_apart, lot, good, where)
        refused(self, OnRibbon, {"place": met, "number": 1}, way_apart, lot, met, None)
        refused(self, OnRibbon, {"place": met, "number": 1}, way_apart, lot, good, met)
        where = lot[0].passes[0].start
        refused(self, OnRibbon, {"place": where, "number": 0}, way_apart, lot, where, met)


if __name__ == "__main__":
    unittest.main()
