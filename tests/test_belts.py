import unittest
from fractions import Fraction

from beltwalk import (
    BASES, SLOPES, bases_and_slopes, corner_number, corner_spots, line_over, mark_of, rim_of, spots_between, told_mark,
    xy_of,
)
from helping import NO_NUMBERS, as_lists, check_result, number, only_tuples, ratio, refused, traced
from tautparcel.belts import (
    CapCorner, Chord, belt_shift, check_base, check_day, check_gait, check_height, check_mark, check_spot, chord_from,
    day_of, days_of, first_height, place_spot, rim_length, spot_place,
)
from tautparcel.errors import BadBase, BadCap, BadDay, BadGait, BadHeight, BadMark, BadSlope, BadSpot

FAR = 10 ** 12
NO_BASES = [(None, 0), (5, 0), ("11", 0), ((), 0), ((1,), 0), ((1, 1, 1), 0), ([], 0), ({1: 1, 2: 2}, 0), ((0, 0), 0),
            ((61, 1), 0), ((1, 61), 1), ((1, 0), 1), ((-1, 1), 0), ((True, True), 0), ((1, True), 1), ((1, None), 1),
            ((1.0, 1), 0), ((1, "1"), 1)]
NO_SLOPES = [(1, 0), (0, 1), (2, 2), (10, 1), (1, 10), (True, 1), None, "11", (1,), (1, 1, 1), [3, 6]]
NO_SPOTS = [thing for thing in NO_NUMBERS if thing != (1, 1)] + [(6, 1), (7, 1), (-1, 3), (2, 4), (0, 2), (1, 0), (1, -2), (1, FAR + 1), (True, 1), (1, True),
                         (5, 2, 1), "12", (1,), ((1, 2), "p")]


class Bases(unittest.TestCase):
    def test_bases(self):
        for base in ((1, 60), [60, 1], (7, 7), (60, 60)):
            self.assertEqual(check_base(base), tuple(base))
            self.assertIsInstance(check_base(base), tuple)
            self.assertEqual(rim_length(base), 2 * base[0] + 2 * base[1])

    def test_bases_refused_first(self):
        wrong = object()
        calls = [
            (check_base,), (rim_length,), (check_spot, wrong), (spot_place, wrong), (place_spot, wrong),
            (belt_shift, wrong, wrong, wrong), (check_mark, wrong), (chord_from, wrong, wrong, wrong),
            (days_of, wrong), (day_of, wrong, wrong), (first_height, wrong, wrong), (check_day, wrong, wrong),
        ]
        for base, index in NO_BASES:
            for call, *rest in calls:
                refused(self, BadBase, {"index": index}, call, base, *rest)

    def test_slopes_refused_next(self):
        wrong = object()
        calls = [(belt_shift, wrong, wrong), (chord_from, wrong, wrong), (days_of,), (day_of, wrong),
                 (first_height, wrong), (check_day, wrong)]
        for slope in NO_SLOPES:
            for call, *rest in calls:
                refused(self, BadSlope, {"slope": slope}, call, [2, 3], slope, *rest)

    def test_heights(self):
        for height in (1, 2, 60, 61, 10 ** 9):
            self.assertEqual(check_height(height), height)
        for height in NO_NUMBERS + [0, -1, 10 ** 9 + 1]:
            refused(self, BadHeight, {"height": height}, check_height, height)
            refused(self, BadHeight, {"height": height}, day_of, (1, 1), (1, 1), height)
            refused(self, BadHeight, {"height": height}, belt_shift, (1, 1), (1, 1), height, "x")


class Spots(unittest.TestCase):
    def test_round_the_rim(self):
        for base in BASES + [(60, 1)]:
            for top in range(rim_of(base) * 4):
                spot = ratio(Fraction(top, 4))
                where = spot_place(base, spot)
                self.assertEqual(tuple(number(entry) for entry in where), xy_of(base, number(spot)))
                self.assertEqual(place_spot(base, where), spot)
                self.assertEqual(place_spot(list(base), as_lists(where)), spot)
                self.assertTrue(only_tuples((where, place_spot(base, as_lists(where)))))
                self.assertEqual(check_spot(base, list(spot)), spot)
                self.assertIsInstance(check_spot(base, list(spot)), tuple)

    def test_corners_and_ends(self):
        for base in BASES:
            places = [(0, 0), (base[0], 0), base, (0, base[1])]
            for spot, (x, y) in zip(corner_spots(base), places):
                self.assertEqual(spot_place(base, (spot, 1)), ((x, 1), (y, 1)))
                self.assertEqual(place_spot(base, ((x, 1), (y, 1))), (spot, 1))
            last = (rim_of(base) * FAR - 1, FAR)
            self.assertEqual(check_spot(base, last), last)
            self.assertEqual(spot_place(base, last), ((0, 1), (1, FAR)))
            self.assertEqual(place_spot(base, ((0, 1), (1, FAR))), last)

    def test_spots_refused(self):
        for spot in NO_SPOTS:
            refused(self, BadSpot, {"spot": spot}, check_spot, (2, 1), spot)
            refused(self, BadSpot, {"spot": spot}, spot_place, (2, 1), spot)

    def test_places_refused(self):
        for place in (None, 5, ((1, 1),), ((0, 1), (0, 1), (1, 1)), ((1, 2), (1, 2)), ((3, 1), (0, 1)),
                      ((-1, 2), (0, 1)), ((0, 1), (3, 2)), ((2, 1), (-1, 2)), ((5, 2), (1, 1)), ((1, 2), (0, 2)),
                      ((True, 1), (0, 1)), ((0, 1), (False, 1)), (0, 0), ((0, 1), 0), ((1, FAR + 1), (0, 1)),
                      ((0, 1), (1, FAR + 1)), ((2, 1), (1, FAR + 1)), ((1, FAR + 1), (1, 1)), {(0, 1): 1, (1, 1): 2}):
            refused(self, BadSpot, {"spot": place}, place_spot, (2, 1), place)

    def test_bottoms_at_the_bound(self):
        self.assertEqual(place_spot((2, 1), ((1, FAR), (0, 1))), (1, FAR))
        self.assertEqual(place_spot((2, 1), ((1, FAR), (1, 1))), (5 * FAR - 1, FAR))


class Gaits(unittest.TestCase):
    def test_gaits(self):
        self.assertEqual([check_gait("p"), check_gait("q")], ["p", "q"])
        for gait in (None, "", "pq", "P", 0, 1, b"p", ["p"], ("p",), True):
            refused(self, BadGait, {"gait": gait}, check_gait, gait)
            refused(self, BadGait, {"gait": gait}, belt_shift, (1, 1), (1, 1), 1, gait)

    def test_shifts(self):
        for base, slope in bases_and_slopes(10 ** 6):
            p, q = slope
            for height in (1, 2, 7, 59, 10 ** 9 - 1, 10 ** 9):
                down = {"p": Fraction(-height * p, q) % rim_of(base), "q": Fraction(height * q, p) % rim_of(base)}
                for gait in "pq":
                    self.assertEqual(belt_shift(list(base), list(slope), height, gait), ratio(down[gait]))

    def test_shifts_in_space(self):
        for base, slope in bases_and_slopes(60):
            for spot in spots_between(base, 3)[::3]:
                for gait in "pq":
                    x, y = xy_of(base, spot)
                    p, q = slope
                    side = [corner <= spot for corner in corner_spots(base)].count(True) - 1
                    along = -p if gait == "p" else q
                    step = [(1, 0), (0, 1), (-1, 0), (0, -1)][side]
                    direction = (along * step[0], along * step[1], -q if gait == "p" else -p)
                    face = [2, 1, 3, 0][side]
                    for height in (1, 4):
                        passes = traced((*base, height), (x, y, Fraction(height)), face, direction, 60)
                        down = [taken for taken in passes if taken[3][2] == 0][0]
                        there = (spot + number(belt_shift(base, slope, height, gait))) % rim_of(base)
                        self.assertEqual(down[3][:2], xy_of(base, there))
                        gone = sum(taken[4] for taken in passes[:passes.index(down) + 1])
                        self.assertEqual(gone, Fraction(height, q if gait == "p" else p))


class Marks(unittest.TestCase):
    def test_marks(self):
        for mark in (((1, 2), "p"), [[5, 3], "q"], ((1, FAR), "q")):
            told = check_mark([2, 1], mark)
            self.assertEqual(told, (tuple(mark[0]), mark[1]))
            self.assertTrue(only_tuples(told))

    def test_refused(self):
        marks = [(spot, "p") for spot in NO_SPOTS] + [((corner, 1), "q") for corner in corner_spots((2, 1))]
        marks += [((1, 2), gait) for gait in (None, "", "x", 0, ["p"], b"q")]
        marks += [None, 5, "pq", (), ((1, 2),), ((1, 2), "p", "p"), ("p", (1, 2)), {(1, 2): "p"}]
        for mark in marks:
            refused(self, BadMark, {"mark": mark}, check_mark, (2, 1), mark)
            refused(self, BadMark, {"mark": mark}, chord_from, (2, 1), (1, 1), "top", mark)


class Chords(unittest.TestCase):
    def test_against_lines(self):
        corners = 0
        for base, slope in bases_and_slopes(48) + [((4, 3), (7, 5))]:
            for bottom in (slope[0] * slope[1], 4):
                for spot in spots_between(base, bottom):
                    for cap in ("top", "bottom"):
                        for gait in "pq":
                            end, length, to_spot, to_gait = line_over(base, slope, cap, spot, gait)
                            mark = mark_of(spot, gait)
                            found = chord_from(base, slope, cap, mark)
                            if to_spot is None:
                                corner = corner_number((*end, cap == "top"), (*base, 1))
                                self.assertEqual(found, CapCorner(corner, ratio(length)))
                                corners += 1
                            else:
                                self.assertEqual(found, Chord(cap, mark, mark_of(to_spot, to_gait), ratio(length)))
                                back = Chord(cap, found.finish, mark, found.length)
                                self.assertEqual(chord_from(base, slope, cap, found.finish), back)
        self.assertGreater(corners, 100)

    def test_example(self):
        found = chord_from([2, 1], [1, 1], "top", [[1, 2], "p"])
        self.assertEqual(found, Chord("top", ((1, 2), "p"), ((7, 2), "p"), (1, 1)))
        self.assertTrue(only_tuples((found.start, found.finish, found.length)))

    def test_finishes_with_great_bottoms(self):
        found = chord_from((1, 1), (9, 7), "top", ((1, FAR - 1), "p"))
        self.assertGreater(found.finish[0][1], FAR)
        self.assertEqual(told_mark(found.finish)[0], line_over((1, 1), (9, 7), "top", Fraction(1, FAR - 1), "p")[2])
        refused(self, BadMark, {"mark": found.finish}, chord_from, (1, 1), (9, 7), "top", found.finish)

    def test_caps_refused(self):
        for cap in (None, "", "Top", 0, 5, 4, True, ["top"], b"top"):
            refused(self, BadCap, {"cap": cap}, chord_from, (1, 1), (1, 1), cap, None)

    def test_they_are_results(self):
        check_result(self, Chord, ["cap", "start", "finish", "length"])
        check_result(self, CapCorner, ["corner", "length"])


class Days(unittest.TestCase):
    def test_days(self):
        for base in BASES:
            for slope in SLOPES:
                size = rim_of(base) * slope[0] * slope[1]
                self.assertEqual(days_of(list(base), list(slope)), size)
                for height in (1, size - 1, size, size + 1, 5 * size, 10 ** 9):
                    self.assertEqual(day_of(base, slope, height), height % size)
                for day in (0, 1, size - 1):
                    self.assertEqual(check_day(base, slope, day), day)
                    self.assertEqual(first_height(base, slope, day), day if day else size)

    def test_shifts_hang_on_the_day(self):
        for base, slope in bases_and_slopes(100):
            size = days_of(base, slope)
            for height in (1, 3, size):
                for gait in "pq":
                    shifts = {belt_shift(base, slope, height + k * size, gait) for k in (0, 1, 2, 1000)}
                    self.assertEqual(len(shifts), 1)

    def test_refused(self):
        for day in NO_NUMBERS + [-1, 12, 13]:
            refused(self, BadDay, {"day": day}, check_day, (1, 2), (1, 2), day)
            refused(self, BadDay, {"day": day}, first_height, (1, 2), (1, 2), day)
        self.assertEqual(days_of((60, 60), (9, 8)), 17280)
        self.assertEqual(check_day((60, 60), (9, 8), 17279), 17279)


if __name__ == "__main__":
    unittest.main()
