import unittest
from fractions import Fraction

from beltwalk import Traced, bases_and_slopes, corner_spots, mark_of, rim_of, spots_between, told_mark
from helping import NO_NUMBERS, check_result, number, only_tuples, ratio, refused
from test_belts import FAR, NO_BASES, NO_SLOPES
from tautparcel.belts import CapCorner, Chord, belt_shift, chord_from, days_of, first_height
from tautparcel.errors import BadBase, BadDay, BadHeight, BadMark, BadSlope, TooMany
from tautparcel.rings import Ring, RingEnds, form_length, ring_of


def marks(base, slope, bottom):
    return [mark_of(spot, gait) for spot in spots_between(base, bottom) for gait in "pq"]


def some_days(base, slope):
    size = days_of(base, slope)
    return sorted({0, 1, 2, size // 3, size // 2, size - 1})


class Form:
    def __init__(self, rest, by_p, by_q):
        self.rest, self.by_p, self.by_q = rest, by_p, by_q


class Lengths(unittest.TestCase):
    def test_forms(self):
        for slope in ((1, 1), [2, 3], (9, 4)):
            for rest in ((0, 1), (5, 3), (-7, 2)):
                for by_p, by_q in ((0, 0), (2, 0), (0, 5), (3, 4)):
                    for height in (1, 6, 10 ** 9):
                        told = number(rest) + height * (Fraction(by_p, slope[1]) + Fraction(by_q, slope[0]))
                        for form in (Form(rest, by_p, by_q), Ring((), (), rest, by_p, by_q), RingEnds(0, rest, by_p, by_q)):
                            self.assertEqual(form_length(slope, form, height), ratio(told))

    def test_refused(self):
        form = Form((1, 1), 1, 1)
        for slope in NO_SLOPES:
            refused(self, BadSlope, {"slope": slope}, form_length, slope, form, None)
        for height in NO_NUMBERS + [0, 10 ** 9 + 1]:
            refused(self, BadHeight, {"height": height}, form_length, (1, 2), form, height)


class Rings(unittest.TestCase):
    def check_traced(self, base, slope, day, mark, found, height):
        ray = Traced(base, slope, height, *told_mark(mark))
        self.assertEqual(form_length(slope, found, height), ratio(ray.length))
        self.assertEqual(number(found.rest), ray.rest)
        if isinstance(found, RingEnds):
            self.assertEqual(found.corner, ray.corner)
            return
        self.assertIsNone(ray.corner)
        for cap, chords, told in (("top", found.tops, ray.tops), ("bottom", found.bottoms, ray.bottoms)):
            self.assertEqual([(told_mark(chord.start), told_mark(chord.finish)) for chord in chords], told)
            self.assertEqual({chord.cap for chord in chords}, {cap})
        self.assertEqual(found.by_p + found.by_q, 2 * len(found.tops))
        self.assertEqual(len(found.bottoms), len(found.tops))
        self.assertEqual(found.tops[0].start, mark)
        self.assertEqual(sum(number(chord.length) for chord in found.tops + found.bottoms), number(found.rest))

    def test_against_rays_in_space(self):
        kinds = {"Ring": 0, "RingEnds": 0}
        for base, slope in bases_and_slopes(48):
            size = days_of(base, slope)
            for day in some_days(base, slope)[::2]:
                for mark in marks(base, slope, 2)[::5] + marks(base, slope, slope[0] * slope[1])[1::11]:
                    found = ring_of(base, slope, day, mark)
                    kinds[type(found).__name__] += 1
                    self.check_traced(base, slope, day, mark, found, first_height(base, slope, day))
                    if size <= 8:
                        self.check_traced(base, slope, day, mark, found, first_height(base, slope, day) + 3 * size)
        self.assertTrue(min(kinds.values()) > 100, kinds)

    def test_from_chord_to_chord(self):
        for base, slope in bases_and_slopes(400):
            size = days_of(base, slope)
            for day in (0, 1, size - 1):
                height = first_height(base, slope, day)
                for mark in [((1, 7), "p"), ((5, 11), "q"), ((rim_of(base) * FAR - 1, FAR), "q")]:
                    ring = ring_of(list(base), list(slope), day, [list(mark[0]), mark[1]])
                    self.assertIsInstance(ring, Ring)
                    belts = {"p": 0, "q": 0}
                    for down, up, again in zip(ring.tops, ring.bottoms, ring.tops[1:] + ring.tops[:1]):
                        for here, there, sign in ((down.finish, up.start, 1), (again.start, up.finish, 1)):
                            self.assertEqual(here[1], there[1])
                            shift = number(belt_shift(base, slope, height, here[1]))
                            self.assertEqual((number(here[0]) + shift) % rim_of(base), number(there[0]))
                            belts[here[1]] += 1
                    self.assertEqual((ring.by_p, ring.by_q), (belts["p"], belts["q"]))
                    self.assertEqual(len({(chord.start, chord.cap) for chord in ring.tops + ring.bottoms}),
                                     2 * len(ring.tops))
                    if mark[0][1] < FAR:
                        for chord in ring.tops + ring.bottoms:
                            self.assertEqual(chord_from(base, slope, chord.cap, chord.start), chord)
                    self.assertTrue(only_tuples([ring.tops, ring.bottoms][0]))

    def test_begun_elsewhere_and_backwards(self):
        for base, slope in bases_and_slopes(60):
            day = days_of(base, slope) // 3
            ring = ring_of(base, slope, day, ((1, 7), "q"))
            for index, chord in enumerate(ring.tops):
                other = ring_of(base, slope, day, chord.start)
                self.assertEqual(other.tops, ring.tops[index:] + ring.tops[:index])
                self.assertEqual(other.bottoms, ring.bottoms[index:] + ring.bottoms[:index])
                back = ring_of(base, slope, day, chord.finish)
                self.assertEqual(back.tops[0], Chord("top", chord.finish, chord.start, chord.length))
                for told in (other, back):
                    self.assertEqual((told.rest, told.by_p, told.by_q), (ring.rest, ring.by_p, ring.by_q))

    def test_ends_at_the_first_corner(self):
        ends = {"top": 0, "belt": 0, "bottom": 0}
        for base, slope in bases_and_slopes(40):
            corners = dict(zip(corner_spots(base), (0, 4, 6, 2)))
            for day in range(days_of(base, slope)):
                for mark in marks(base, slope, slope[0] * slope[1])[::5]:
                    chord = chord_from(base, slope, "top", mark)
                    found = ring_of(base, slope, day, mark)
                    if isinstance(chord, CapCorner):
                        self.assertEqual(found, RingEnds(chord.corner, chord.length, 0, 0))
                        ends["top"] += 1
                        continue
                    spot, gait = chord.finish
                    shift = belt_shift(base, slope, first_height(base, slope, day), gait)
                    there = (number(spot) + number(shift)) % rim_of(base)
                    by_p, by_q = int(gait == "p"), int(gait == "q")
                    if there in corners:
                        # The pass of the belt that ends at the corner counts.
                        self.assertEqual(found, RingEnds(corners[there], chord.length, by_p, by_q))
                        ends["belt"] += 1
                        continue
                    below = chord_from(base, slope, "bottom", mark_of(there, gait))
                    if isinstance(below, CapCorner):
                        rest = ratio(number(chord.length) + number(below.length))
                        self.assertEqual(found, RingEnds(below.corner, rest, by_p, by_q))
                        ends["bottom"] += 1
        self.assertGreater(min(ends.values()), 50, ends)

    def test_many_days(self):
        self.assertEqual(days_of((50, 50), (1, 2)), 400)
        self.assertIsInstance(ring_of((50, 50), (1, 2), 399, ((1, 3), "p")), Ring)
        for base, slope in (((51, 50), (1, 2)), ((60, 60), (9, 8))):
            refused(self, TooMany, {"most": 400}, ring_of, base, slope, 0, ((1, 3), "p"))
            refused(self, BadMark, {"mark": None}, ring_of, base, slope, 0, None)
            refused(self, BadDay, {"day": -1}, ring_of, base, slope, -1, None)

    def test_refused(self):
        for base, index in NO_BASES:
            refused(self, BadBase, {"index": index}, ring_of, base, None, None, None)
        for slope in NO_SLOPES:
            refused(self, BadSlope, {"slope": slope}, ring_of, (1, 1), slope, None, None)
        for day in NO_NUMBERS + [-1, 4]:
            refused(self, BadDay, {"day": day}, ring_of, (1, 1), (1, 1), day, None)
        for mark in (None, ((1, 1), "p"), ((4, 1), "q"), ((1, 2), "x"), ((1, FAR + 1), "p")):
            refused(self, BadMark, {"mark": mark}, ring_of, (1, 1), (1, 1), 0, mark)

    def test_they_are_results(self):
        check_result(self, Ring, ["tops", "bottoms", "rest", "by_p", "by_q"])
        check_result(self, RingEnds, ["corner", "rest", "by_p", "by_q"])


if __name__ == "__main__":
    unittest.main()
