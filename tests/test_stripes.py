import unittest
from fractions import Fraction

from beltwalk import Traced, bases_and_slopes, corner_spots, line_over, mark_of, rim_of, spots_between, told_mark
from helping import NO_NUMBERS, as_lists, number, only_tuples, ratio, refused
from test_belts import FAR, NO_BASES, NO_SLOPES, NO_SPOTS
from tautparcel.belts import Chord, chord_from, days_of, first_height
from tautparcel.boxes import Box
from tautparcel.errors import BadBase, BadChord, BadHeight, BadSlope, BadStripes, TooMany
from tautparcel.levels import band_ribbon
from tautparcel.ribbons import Ribbon, back_ribbon, ribbon_begun, ribbon_of
from tautparcel.rings import RingEnds, ring_of
from tautparcel.slopes import directions_on
from tautparcel.stripes import Stripes, check_chord, stripes_at, stripes_of


def couple_of(chord):
    """The ascending couple of spots of a Chord."""
    return tuple(sorted((chord.start[0], chord.finish[0]), key=number))


def ascending(chords):
    return tuple(sorted(chords, key=lambda chord: (number(chord[0]), number(chord[1]))))


def chords_at(base, slope, bottom, cap="top"):
    """All chords of a cap from spots with a bottom, as couples of spots."""
    found = {}
    for spot in spots_between(base, bottom):
        for gait in "pq":
            chord = chord_from(base, slope, cap, mark_of(spot, gait))
            if isinstance(chord, Chord):
                found[couple_of(chord)] = chord
    return found


def mark_of_chord(base, slope, couple):
    """The mark at the lesser spot of a chord of the top."""
    for gait in "pq":
        if line_over(base, slope, "top", number(couple[0]), gait)[2] == number(couple[1]):
            return (couple[0], gait)
    raise AssertionError(couple)


class Chords(unittest.TestCase):
    def test_in_either_order(self):
        for base, slope in bases_and_slopes(60):
            for couple in chords_at(base, slope, 3):
                for told in (couple, couple[::-1], as_lists(couple), as_lists(couple[::-1])):
                    self.assertEqual(check_chord(list(base), list(slope), told), couple)
                self.assertTrue(only_tuples(check_chord(base, slope, as_lists(couple))))

    def test_exactly_the_chords_are_let(self):
        for base, slope in (((1, 1), (1, 1)), ((2, 1), (1, 2)), ((1, 2), (3, 1))):
            known = chords_at(base, slope, 6)
            spots = [ratio(spot) for spot in spots_between(base, 6)]
            many = 0
            for one in spots:
                for other in spots:
                    if tuple(sorted((one, other), key=number)) in known:
                        check_chord(base, slope, (one, other))
                        many += 1
                    else:
                        refused(self, BadChord, {"what": "chord"}, check_chord, base, slope, (one, other))
            self.assertEqual(many, 2 * len([chord for chord in known if all(6 % spot[1] == 0 for spot in chord)]))

    def test_chords_of_the_bottom(self):
        for base, slope in bases_and_slopes(40):
            for couple in chords_at(base, slope, 2, "bottom"):
                self.assertEqual(check_chord(base, slope[::-1], couple), couple)

    def test_words(self):
        for chord in (None, 5, "ab", (), ((1, 2),), ((1, 2), (7, 2), (1, 2)), {(1, 2): 1, (7, 2): 1}):
            refused(self, BadChord, {"what": "couple"}, check_chord, (2, 1), (1, 1), chord)
        for spot in NO_SPOTS:
            for chord in ((spot, (7, 2)), ((7, 2), spot), ((0, 1), spot), [spot, spot]):
                refused(self, BadChord, {"what": "spot"}, check_chord, (2, 1), (1, 1), chord)
        for corner in corner_spots((2, 1)):
            for chord in (((corner, 1), (1, 2)), ((1, 2), (corner, 1)), ((corner, 1), (corner, 1))):
                refused(self, BadChord, {"what": "corner"}, check_chord, (2, 1), (1, 1), chord)
        for chord in (((1, 2), (1, 2)), ((1, 2), (3, 2)), ((1, 2), (5, 2)), ((1, 2), (9, 2)), ((7, 2), (7, 2))):
            refused(self, BadChord, {"what": "chord"}, check_chord, (2, 1), (1, 1), chord)
        self.assertEqual(check_chord((2, 1), (1, 1), ((7, 2), (1, 2))), ((1, 2), (7, 2)))

    def test_base_and_slope_first(self):
        for base, index in NO_BASES:
            refused(self, BadBase, {"index": index}, check_chord, base, None, None)
        for slope in NO_SLOPES:
            refused(self, BadSlope, {"slope": slope}, check_chord, (2, 1), slope, None)
        # No days are counted here.
        self.assertEqual(check_chord((60, 60), (9, 8), chord_of((60, 60), (9, 8))), chord_of((60, 60), (9, 8)))


def chord_of(base, slope):
    return couple_of(chord_from(base, slope, "top", ((1, 11), "p")))


def many_chords(many):
    """So many chords of the top of 1 x 1 with the slope (1, 1)."""
    return [couple_of(chord_from((1, 1), (1, 1), "top", ((top, 1009), "p"))) for top in range(1, many + 1)]


class Made(unittest.TestCase):
    def test_attributes(self):
        for base, slope in bases_and_slopes(200):
            known = chords_at(base, slope, 3)
            told = list(known)[::2]
            for chords in (told, tuple(told), told[::-1], [list(chord[::-1]) for chord in told]):
                made = Stripes(list(base), list(slope), chords)
                self.assertEqual((made.base, made.slope, made.chords), (base, slope, ascending(told)))
                gaits = "".join(known[chord].start[1] + known[chord].finish[1] for chord in told)
                self.assertEqual(made.gaits, (gaits.count("p"), gaits.count("q")))
                self.assertEqual(number(made.span), sum(number(known[chord].length) for chord in told))
                self.assertEqual(made.period, days_of(base, slope))
                self.assertEqual((len(made), tuple(made), list(made)), (len(told), made.chords, list(made.chords)))
                self.assertTrue(only_tuples((made.base, made.slope, made.chords, made.gaits, made.span)))

    def test_many(self):
        chords = many_chords(401)
        self.assertEqual(len(Stripes((1, 1), (1, 1), chords[:400])), 400)
        for wrong in (chords, (), [], None, 5, "ab", {chords[0]: 1}, iter(chords[:3])):
            refused(self, BadStripes, {"index": 0, "what": "many"}, Stripes, (1, 1), (1, 1), wrong)

    def test_words_of_each_chord(self):
        good = [((1, 2), (7, 2)), ((1, 3), (11, 3))]
        self.assertEqual(len(Stripes((2, 1), (1, 1), good)), 2)
        wrongs = [(None, "couple"), (((1, 2), None), "spot"), (((0, 1), (1, 2)), "corner"), (((1, 2), (1, 3)), "chord"),
                  (((7, 2), (1, 2)), "twice"), ([[1, 3], [11, 3]], "twice")]
        for wrong, word in wrongs:
            for index in (0, 1, 2):
                chords = good[:index] + [wrong] + good[index:]
                if word == "twice":
                    chords = good + [((1, 5), (19, 5))] * index + [wrong]
                    told = {"index": {0: 2, 1: 3, 2: 3}[index], "what": word}
                else:
                    told = {"index": index, "what": word}
                refused(self, BadStripes, told, Stripes, (2, 1), (1, 1), chords)
        refused(self, BadStripes, {"index": 1, "what": "spot"}, Stripes, (2, 1), (1, 1), [good[0], (0, 0), None])

    def test_errors_in_order(self):
        for base, index in NO_BASES:
            refused(self, BadBase, {"index": index}, Stripes, base, None, None)
        for slope in NO_SLOPES:
            refused(self, BadSlope, {"slope": slope}, Stripes, (60, 60), slope, None)
        for base, slope in (((51, 50), (1, 1)), ((60, 60), (9, 8)), ((26, 25), (1, 2))):
            refused(self, TooMany, {"most": 200}, Stripes, base, slope, None)
        self.assertEqual(Stripes((50, 50), (1, 1), [chord_of((50, 50), (1, 1))]).period, 200)

    def test_equal(self):
        one = Stripes((2, 1), (1, 1), [((1, 2), (7, 2)), ((1, 3), (11, 3))])
        self.assertIs(one == Stripes([2, 1], [1, 1], (((11, 3), (1, 3)), ((1, 2), (7, 2)))), True)
        self.assertIs(one != Stripes((2, 1), (1, 1), one.chords), False)
        for other in (Stripes((2, 1), (1, 1), one.chords[:1]), one.chords, None, Box((1, 1, 1)), "stripes"):
            self.assertIs(one == other, False)
            self.assertIs(one != other, True)


class AtAHeight(unittest.TestCase):
    def test_chords_of_rings(self):
        nones = 0
        for base, slope in bases_and_slopes(200):
            size = days_of(base, slope)
            for height in (1, size // 2, size, 3 * size + 2, 10 ** 9):
                for couple in list(chords_at(base, slope, 2))[::3] + [chord_of(base, slope)]:
                    ring = ring_of(base, slope, height % size, mark_of_chord(base, slope, couple))
                    found = stripes_at(list(base), list(slope), height, as_lists(couple[::-1]))
                    if isinstance(ring, RingEnds):
                        self.assertIsNone(found)
                        nones += 1
                        continue
                    self.assertEqual(found.chords, ascending(couple_of(chord) for chord in ring.tops))
                    self.assertEqual(found.gaits, (ring.by_p, ring.by_q))
                    self.assertIn(couple, found.chords)
                    self.assertEqual(found, Stripes(base, slope, found.chords))
                    self.assertTrue(len(found) <= (base[0] + base[1]) * sum(slope))
        self.assertGreater(nones, 50)

    def test_rays_in_space(self):
        for base, slope in bases_and_slopes(24):
            for height in (1, 3, 2 * days_of(base, slope) + 3):
                couple = chord_of(base, slope)
                found = stripes_at(base, slope, height, couple)
                ray = Traced(base, slope, height, *told_mark(mark_of_chord(base, slope, couple)))
                told = {tuple(sorted((start[0], finish[0]))) for start, finish in ray.tops}
                self.assertEqual({(number(one), number(other)) for one, other in found}, told)
                p, q = slope
                length = ray.rest + height * (Fraction(found.gaits[0], q) + Fraction(found.gaits[1], p))
                self.assertEqual(length, ray.length)

    def test_heights_of_a_day(self):
        for base, slope in bases_and_slopes(120):
            size = days_of(base, slope)
            couple = chord_of(base, slope)
            for height in (1, 2, size):
                one = stripes_at(base, slope, height, couple)
                for times in (1, 2, 1000):
                    self.assertEqual(stripes_at(base, slope, height + times * size, couple), one)
                if slope[0] % 2 == slope[1] % 2 == 1:
                    self.assertEqual(stripes_at(base, slope, height + size // 2, couple), one)

    def test_great_bottoms(self):
        base, slope = (2, 1), (3, 2)
        mark = ((1, FAR // 2 - 21), "p")
        chord = chord_from(base, slope, "top", mark)
        self.assertEqual(couple_of(chord), check_chord(base, slope, couple_of(chord)))
        for height in (2, 4, 6, 34):
            found = stripes_at(base, slope, height, couple_of(chord))
            self.assertGreater(max(spot[1] for couple in found for spot in couple), FAR)
            ring = ring_of(base, slope, height, mark)
            self.assertEqual(found.chords, ascending(couple_of(chord) for chord in ring.tops))
            self.assertEqual(number(found.span), sum(number(chord.length) for chord in ring.tops))
            self.assertEqual(found, stripes_at(base, slope, height, couple_of(chord)))
        # Such spots are refused where they are passed.
        refused(self, BadStripes, {"index": 0, "what": "spot"}, Stripes, base, slope,
                sorted(found, key=lambda couple: -max(spot[1] for spot in couple)))

    def test_errors_in_order(self):
        for base, index in NO_BASES:
            refused(self, BadBase, {"index": index}, stripes_at, base, None, None, None)
        for slope in NO_SLOPES:
            refused(self, BadSlope, {"slope": slope}, stripes_at, (60, 60), slope, None, None)
        refused(self, TooMany, {"most": 200}, stripes_at, (51, 50), (1, 1), None, None)
        for height in NO_NUMBERS + [0, 10 ** 9 + 1]:
            refused(self, BadHeight, {"height": height}, stripes_at, (50, 50), (1, 1), height, None)
        for chord, word in ((None, "couple"), (((1, 2), 1), "spot"), (((1, 1), (1, 2)), "corner"),
                            (((1, 2), (3, 5)), "chord")):
            refused(self, BadChord, {"what": word}, stripes_at, (1, 1), (1, 1), 10 ** 9, chord)


class OfRibbons(unittest.TestCase):
    def test_against_stripes_at_the_height(self):
        many = 0
        for base, slope in bases_and_slopes(60):
            for height in (1, 2, 5):
                box = Box((*base, height))
                for direction in directions_on(2, slope)[:2]:
                    for x, z in ((Fraction(1, 3), Fraction(2, 5)), (Fraction(3, 7), Fraction(1, 2))):
                        ribbon = ribbon_of(box, (ratio(x), (0, 1), ratio(z)), 2, direction)
                        if not isinstance(ribbon, Ribbon):
                            continue
                        found = stripes_of(ribbon)
                        self.assertEqual(len(found), ribbon.faces.count(5))
                        self.assertEqual(found, stripes_at(base, slope, height, found.chords[-1]))
                        for other in (back_ribbon(ribbon), ribbon_begun(ribbon, 1)):
                            self.assertEqual(stripes_of(other), found)
                        rest = sum(number(taken.length) for taken in ribbon.passes if taken.face in (4, 5))
                        p, q = slope
                        told = rest + height * (Fraction(found.gaits[0], q) + Fraction(found.gaits[1], p))
                        self.assertEqual(told, ribbon.length)
                        many += 1
        self.assertGreater(many, 100)

    def test_refused(self):
        box = Box((1, 1, 2))
        band = band_ribbon(box, 2, (1, 3))
        refused(self, BadSlope, {"slope": (1, 0)}, stripes_of, band)
        refused(self, BadSlope, {"slope": (1, 0)}, stripes_of, band_ribbon(box, 0, (1, 3)))
        for steps in ((10, 1, 0), (1, 10, 0), (11, 9, 0)):
            steep = ribbon_of(box, ((1, 3), (2, 7), (2, 1)), 5, steps)
            self.assertIsInstance(steep, Ribbon)
            refused(self, BadSlope, {"slope": steep.slope}, stripes_of, steep)
        far = ribbon_of(Box((51, 50, 1)), ((1, 3), (2, 7), (1, 1)), 5, (1, 1, 0))
        refused(self, TooMany, {"most": 200}, stripes_of, far)
        near = ribbon_of(Box((50, 50, 1)), ((1, 3), (2, 7), (1, 1)), 5, (1, 1, 0))
        self.assertEqual(stripes_of(near).base, (50, 50))
        self.assertEqual(rim_of((50, 50)), 200)
        for slope in ((9, 8), (8, 9)):
            refused(self, TooMany, {"most": 200}, stripes_of, first_ribbon(Box((2, 1, 1)), slope))

    def test_great_bottoms(self):
        ribbon = ribbon_of(Box((2, 1, 1)), ((1, 3), (1, FAR - 1), (1, 1)), 5, (1, 2, 0))
        self.assertIsInstance(ribbon, Ribbon)
        found = stripes_of(ribbon)
        self.assertEqual(len(found), ribbon.faces.count(5))
        self.assertEqual(first_height((2, 1), (1, 2), 1), 1)


def first_ribbon(box, slope):
    return ribbon_of(box, ((1, 3), (2, 7), (box.sides[2], 1)), 5, (*slope, 0))


if __name__ == "__main__":
    unittest.main()
