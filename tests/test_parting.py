import unittest
from fractions import Fraction
from itertools import combinations

from beltwalk import bases_and_slopes, mark_of, rim_of
from helping import NO_NUMBERS, as_lists, check_result, only_tuples, refused
from test_belts import FAR, NO_BASES, NO_SLOPES
from test_stripes import chords_at, couple_of
from tautparcel.belts import Chord, chord_from, days_of, first_height
from tautparcel.errors import BadBase, BadHeight, BadSlope, TooMany
from tautparcel.parting import Parting, alike_days, parting_chord, parting_fault
from tautparcel.stripes import stripes_at


def drawn_chords(base, slope):
    """Chords through all units of the rim: at a fifth, in the middle and at the ends of each."""
    found = {}
    for weight, gait in ((slope[1], "p"), (slope[0], "q")):
        for unit in range(rim_of(base) * weight):
            for part in (0, Fraction(1, 5), Fraction(1, 2)):
                spot = (unit + part) / Fraction(weight)
                try:
                    chord = chord_from(base, slope, "top", mark_of(spot, gait))
                except ValueError:
                    continue
                if isinstance(chord, Chord):
                    found[couple_of(chord)] = True
    return list(found)


def alike_by_drawing(base, slope, one, other):
    for chord in drawn_chords(base, slope):
        first, second = stripes_at(base, slope, one, chord), stripes_at(base, slope, other, chord)
        if first is not None and second is not None and first != second:
            return False
    return True


class Alike(unittest.TestCase):
    def test_against_drawn_chords(self):
        for base, slope in bases_and_slopes(24):
            size = days_of(base, slope)
            lots = alike_days(list(base), list(slope))
            self.assertTrue(only_tuples(lots))
            self.assertEqual(sorted(day for lot in lots for day in lot), list(range(size)))
            self.assertEqual([list(lot) for lot in lots], sorted(sorted(lot) for lot in lots))
            chords = drawn_chords(base, slope)
            rows = [[stripes_at(base, slope, first_height(base, slope, day), chord) for chord in chords]
                    for day in range(size)]
            for one, other in combinations(range(size), 2):
                unlike = [1 for first, second in zip(rows[one], rows[other]) if first and second and first != second]
                together = any(one in lot and other in lot for lot in lots)
                self.assertIs(together, not unlike, (base, slope, one, other))

    def test_half_a_calendar(self):
        halves = 0
        for base, slope in bases_and_slopes(200):
            size = days_of(base, slope)
            if slope[0] % 2 == slope[1] % 2 == 1:
                for lot in alike_days(base, slope):
                    for day in lot:
                        self.assertIn((day + size // 2) % size, lot)
                for height in (1, size, size + 3):
                    self.assertIsNone(parting_chord(base, slope, height, height + size // 2))
                halves += 1
        self.assertGreater(halves, 10)

    def test_refused(self):
        for base, index in NO_BASES:
            refused(self, BadBase, {"index": index}, alike_days, base, None)
        for slope in NO_SLOPES:
            refused(self, BadSlope, {"slope": slope}, alike_days, (60, 60), slope)
        refused(self, TooMany, {"most": 200}, alike_days, (51, 50), (1, 1))
        self.assertEqual(sum(len(lot) for lot in alike_days((50, 50), (1, 1))), 200)


class Chords(unittest.TestCase):
    def test_parting(self):
        kinds = {None: 0, "chord": 0}
        for base, slope in bases_and_slopes(60):
            size = days_of(base, slope)
            lots = alike_days(base, slope)
            for one, other in ((1, 2), (1, size), (2, size // 2 + 2), (3, 3), (5, 5 + 7 * size), (size, 10 ** 9)):
                found = parting_chord(list(base), list(slope), one, other)
                together = any(one % size in lot and other % size in lot for lot in lots)
                self.assertIs(found is None, together)
                self.assertIsNone(parting_fault(base, slope, one, other, found))
                if found is not None:
                    self.assertEqual(found.first, stripes_at(base, slope, one, found.chord))
                    self.assertEqual(found.second, stripes_at(base, slope, other, found.chord))
                    self.assertNotEqual(found.first, found.second)
                    self.assertIn(found.chord, found.first.chords)
                    self.assertTrue(only_tuples(found.chord))
                kinds[None if found is None else "chord"] += 1
        self.assertGreater(min(kinds.values()), 20)

    def test_all_couples_of_days(self):
        base, slope = (1, 2), (2, 1)
        for one, other in combinations(range(1, 13), 2):
            found = parting_chord(base, slope, one, other)
            self.assertIs(found is None, alike_by_drawing(base, slope, one, other))

    def test_refused(self):
        calls = [(parting_chord,), (parting_fault, None), (parting_fault, "x")]
        for call, *told in calls:
            for base, index in NO_BASES:
                refused(self, BadBase, {"index": index}, call, base, None, None, None, *told)
            for slope in NO_SLOPES:
                refused(self, BadSlope, {"slope": slope}, call, (60, 60), slope, None, None, *told)
            refused(self, TooMany, {"most": 200}, call, (51, 50), (1, 1), None, None, *told)
            for height in NO_NUMBERS + [0, 10 ** 9 + 1]:
                refused(self, BadHeight, {"height": height}, call, (1, 1), (1, 1), height, 0, *told)
                refused(self, BadHeight, {"height": height}, call, (1, 1), (1, 1), 1, height, *told)

    def test_it_is_a_result(self):
        check_result(self, Parting, ["chord", "first", "second"])


class Faults(unittest.TestCase):
    BASE, SLOPE = (2, 1), (1, 2)

    def fault(self, told, one=1, other=2):
        return parting_fault(self.BASE, self.SLOPE, one, other, told)

    def test_words(self):
        right = parting_chord(self.BASE, self.SLOPE, 1, 2)
        chord, first, second = right.chord, right.first, right.second
        corner = self.chord_at_a_corner()
        cases = [
            (None, right), (None, Parting(chord[::-1], first, second)), (None, Parting(as_lists(chord), first, second)),
            ("parting", (chord, first, second)), ("parting", 5), ("parting", False), ("parting", chord),
            ("alike", None),
            ("chord", Parting(None, first, second)), ("chord", Parting((chord[0], chord[0]), first, second)),
            ("chord", Parting((chord[0], (0, 1)), first, second)), ("chord", Parting((chord[0],), first, second)),
            ("chord", Parting((chord[0], (1, FAR + 1)), None, None)), ("chord", Parting((True, chord[1]), first, second)),
            ("corner", Parting(corner, first, second)), ("corner", Parting(corner, None, None)),
            ("first", Parting(chord, second, second)), ("first", Parting(chord, None, second)),
            ("first", Parting(chord, first.chords, second)), ("first", Parting(chord, second, first)),
            ("second", Parting(chord, first, first)), ("second", Parting(chord, first, None)),
        ]
        for word, told in cases:
            self.assertEqual(self.fault(told), word)

    def chord_at_a_corner(self):
        for chord in chords_at(self.BASE, self.SLOPE, 2):
            found = [stripes_at(self.BASE, self.SLOPE, height, chord) for height in (1, 2)]
            if None in found:
                return chord
        raise AssertionError

    def test_a_corner_at_one_height_alone(self):
        base, slope, chord = (1, 1), (3, 1), ((2, 3), (8, 3))
        there = stripes_at(base, slope, 2, chord)
        self.assertIsNone(stripes_at(base, slope, 1, chord))
        for one, other in ((1, 2), (2, 1)):
            for told in (Parting(chord, None, there), Parting(chord, there, None), Parting(chord, there, there)):
                self.assertEqual(parting_fault(base, slope, one, other, told), "corner")
        self.assertEqual(parting_fault(base, slope, 2, 14, Parting(chord, there, there)), "same")

    def test_the_same_at_both(self):
        for chord in drawn_chords(self.BASE, self.SLOPE):
            for one, other in ((1, 2), (1, 13), (4, 7)):
                first, second = [stripes_at(self.BASE, self.SLOPE, height, chord) for height in (one, other)]
                if first is not None and first == second:
                    self.assertEqual(self.fault(Parting(chord, first, second), one, other), "same")
                elif first is not None and second is not None:
                    self.assertIsNone(self.fault(Parting(chord, first, second), one, other))
        self.assertIsNone(self.fault(None, 1, 13))
        self.assertEqual(self.fault(0, 1, 13), "parting")


if __name__ == "__main__":
    unittest.main()
