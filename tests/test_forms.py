import unittest
from fractions import Fraction

from beltwalk import (
    bases_and_slopes, corner_spots, inward, line_over, mark_of, rim_of, side_at, spots_between, xy_of,
)
from helping import NO_NUMBERS, check_result, number, only_tuples, ratio, refused
from test_belts import FAR, NO_BASES, NO_SLOPES
from tautparcel.belts import belt_shift, days_of, first_height
from tautparcel.boxes import Box
from tautparcel.cornerways import all_corner_ways
from tautparcel.crossings import crossings_of
from tautparcel.errors import BadBase, BadDay, BadMark, BadSlope, TooMany
from tautparcel.forms import LaneForm, Stretch, WayForm, lane_forms, lane_of_mark, top_shows, way_forms
from tautparcel.lanes import lanes_of
from tautparcel.rings import Ring, form_length, ring_of
from tautparcel.wherelane import OnBorder, Where, lane_at, middle_ribbon


def days_and_heights(base, slope, most, step=1):
    """(day, height) for heights of boxes, up to some periods."""
    size = days_of(base, slope)
    return [(height % size, height) for height in range(1, most + 1, step)]


def told_or_none(call, *args):
    try:
        return call(*args)
    except TooMany:
        return None


def refused_as_of_a_day(case, call, *rest):
    """Asserts the errors of base, slope and day, each before what comes behind it, and that TooMany comes last."""
    for base, index in NO_BASES:
        refused(case, BadBase, {"index": index}, call, base, None, None, *rest)
    for slope in NO_SLOPES:
        refused(case, BadSlope, {"slope": slope}, call, [3, 1], slope, None, *rest)
    for day in NO_NUMBERS + [-1, 16]:
        refused(case, BadDay, {"day": day}, call, [3, 1], [2, 1], day, *rest)
    refused(case, BadDay, {"day": 404}, call, (51, 50), (1, 2), 404, *rest)


class Ways(unittest.TestCase):
    def test_against_corner_ways_of_boxes(self):
        for base, slope in bases_and_slopes(400):
            for day, height in days_and_heights(base, slope, 60, 7 if days_of(base, slope) > 12 else 3):
                told = way_forms(list(base), list(slope), day)
                ways = all_corner_ways(Box((*base, height)), slope)
                for form, way in zip(told, ways, strict=True):
                    self.assertEqual((form.start, form.face, form.finish, form.last),
                                     (way.start, way.face, way.finish, way.last))
                    self.assertEqual(form_length(slope, form, height), (way.length, 1))

    def test_backwards(self):
        for base, slope in bases_and_slopes(60):
            for day in range(0, days_of(base, slope), 3):
                forms = {(form.start, form.face): form for form in way_forms(base, slope, day)}
                self.assertEqual(len(forms), 24)
                self.assertEqual(list(forms), sorted(forms))
                for (start, face), form in forms.items():
                    back = forms[form.finish, form.last]
                    self.assertEqual((back.finish, back.last), (start, face))
                    self.assertEqual((back.rest, back.by_p, back.by_q), (form.rest, form.by_p, form.by_q))

    def test_over_the_belt_alone(self):
        # On 1 x 1 with slope (1, 1) a way over the belt falls by the height: to the corner right below on day 0.
        told = [form for form in way_forms((1, 1), (1, 1), 0) if form.rest == (0, 1)]
        self.assertEqual(len(told), 16)
        for form in told:
            self.assertEqual(form.by_p + form.by_q, 1)
            self.assertEqual(form.start ^ form.finish, 1)
            self.assertNotEqual(form.face, form.last)

    def test_refused(self):
        refused_as_of_a_day(self, way_forms)
        refused(self, TooMany, {"most": 400}, way_forms, (51, 50), (1, 2), 0)
        self.assertEqual(len(way_forms((50, 50), (1, 2), 399)), 24)

    def test_they_are_results(self):
        check_result(self, WayForm, ["start", "face", "finish", "last", "rest", "by_p", "by_q"])
        check_result(self, LaneForm, ["breadth", "rest", "by_p", "by_q", "selfs", "slices"])
        check_result(self, Stretch, ["gait", "low", "high", "to_gait", "to_low", "to_high"])


class LaneForms(unittest.TestCase):
    def test_against_lanes_of_boxes(self):
        many = 0
        for base, slope in bases_and_slopes(400):
            for day, height in days_and_heights(base, slope, 60, 11 if days_of(base, slope) > 12 else 3):
                lanes = told_or_none(lanes_of, Box((*base, height)), slope)
                if lanes is not None:
                    forms = lane_forms(base, slope, day)
                    told = sorted((form.breadth, form_length(slope, form, height)) for form in forms)
                    self.assertEqual(told, sorted((lane.breadth, (lane.length, 1)) for lane in lanes))
                    many += 1
        self.assertGreater(many, 150)

    def test_crossings_of_real_ribbons(self):
        many = 0
        for base, slope in bases_and_slopes(60):
            size = days_of(base, slope)
            p, q = slope
            for day, height in days_and_heights(base, slope, 30, 5 if size > 12 else 1):
                lanes = told_or_none(lanes_of, Box((*base, height)), slope)
                if lanes is None or sum(len(lane.faces) for lane in lanes) > 500:
                    continue
                real = sorted((lane.breadth, lane.length, len(crossings_of(middle_ribbon(lane)))) for lane in lanes)
                told = []
                for form in lane_forms(base, slope, day):
                    crossed = number(form.selfs) + Fraction(height * form.by_p * form.by_q * (p * p + q * q), size)
                    told.append((form.breadth, form_length(slope, form, height)[0], crossed))
                self.assertEqual(sorted(told), real)
                many += 1
        self.assertGreater(many, 100)

    def test_three_sums_and_the_area_at_every_height(self):
        for base, slope in bases_and_slopes(400):
            (a, b), (p, q), size = base, slope, days_of(base, slope)
            for day in sorted({0, 1, size // 2, size - 1}):
                forms = lane_forms(base, slope, day)
                self.assertEqual(sum(form.breadth * form.by_p for form in forms), 2 * rim_of(base) * q)
                self.assertEqual(sum(form.breadth * form.by_q for form in forms), 2 * rim_of(base) * p)
                self.assertEqual(sum(form.breadth * number(form.rest) for form in forms), 8 * a * b)
                for height in (first_height(base, slope, day), day + 7 * size, 10 ** 9 - (10 ** 9 - day) % size):
                    area = sum(form.breadth * number(form_length(slope, form, height)) for form in forms)
                    self.assertEqual(area, 8 * (a * b + b * height + height * a))
                ways = way_forms(base, slope, day)
                for call in (lambda form: number(form.rest), lambda form: form.by_p, lambda form: form.by_q):
                    self.assertEqual(sum(call(form) for form in forms), sum(call(way) for way in ways))

    def test_slices_fill_the_rim(self):
        for base, slope in bases_and_slopes(400):
            size = days_of(base, slope)
            for day in sorted({0, 1, size // 3, size - 1}):
                forms = lane_forms(base, slope, day)
                self.assertTrue(only_tuples(tuple((form.slices, form.rest, form.selfs) for form in forms)))
                self.assertTrue(only_tuples(forms))
                firsts = []
                for form in forms:
                    rows = [(gait, number(low), number(high)) for gait, low, high in form.slices]
                    self.assertEqual(rows, sorted(rows))
                    for gait, low, high in rows:
                        self.assertTrue(0 <= low < high <= rim_of(base))
                        self.assertEqual((high - low) * (slope[1] if gait == "p" else slope[0]), form.breadth)
                    self.assertIs(type(form.breadth), int)
                    firsts.append(rows[0])
                self.assertEqual(firsts, sorted(firsts))
                for gait in "pq":
                    rows = sorted((number(low), number(high)) for form in forms
                                  for own, low, high in form.slices if own == gait)
                    self.assertEqual([low for low, high in rows] + [rim_of(base)], [0] + [high for low, high in rows])

    def test_slices_in_real_lanes(self):
        for base, slope in bases_and_slopes(36):
            for day, height in days_and_heights(base, slope, 5, 3):
                box = Box((*base, height))
                lanes = told_or_none(lanes_of, box, slope)
                if lanes is None:
                    continue
                seen = []
                for index, form in enumerate(lane_forms(base, slope, day)):
                    inside = []
                    for gait, low, high in form.slices:
                        for part in (Fraction(1, 7), Fraction(1, 2)):
                            spot = number(low) + part * (number(high) - number(low))
                            where = self.where(box, base, slope, spot, gait)
                            inside.append(lanes.number_of(where.lane))
                            told = (index, where.offset)
                            self.assertEqual(lane_of_mark(base, slope, day, mark_of(spot, gait)), told)
                        for end in (number(low), number(high) % rim_of(base)):
                            if end not in corner_spots(base):
                                self.assertIsInstance(self.where(box, base, slope, end, gait), OnBorder)
                    self.assertEqual(len(set(inside)), 1)
                    self.assertEqual(lanes.lanes[inside[0]].faces.count(5), len(form.slices))
                    seen.append(inside[0])
                self.assertEqual(sorted(seen), list(range(len(lanes))))

    def where(self, box, base, slope, spot, gait):
        x, y = xy_of(base, spot)
        found = lane_at(box, (ratio(x), ratio(y), (box.sides[2], 1)), 5, (*inward(base, slope, "top", spot, gait), 0))
        self.assertIsInstance(found, (Where, OnBorder))
        return found

    def test_refused(self):
        refused_as_of_a_day(self, lane_forms)
        refused(self, TooMany, {"most": 400}, lane_forms, (51, 50), (1, 2), 0)
        self.assertEqual(len(lane_forms([50, 50], [1, 2], 0)), len(lane_forms((50, 50), (1, 2), 0)))


class LaneOfMark(unittest.TestCase):
    def test_none_exactly_if_it_meets_a_corner(self):
        for base, slope in bases_and_slopes(40):
            for day in range(0, days_of(base, slope), 3):
                forms = lane_forms(base, slope, day)
                for spot in spots_between(base, slope[0] * slope[1])[::3]:
                    for gait in "pq":
                        found = lane_of_mark(list(base), list(slope), day, [ratio(spot), gait])
                        ring = ring_of(base, slope, day, mark_of(spot, gait))
                        self.assertEqual(found is None, not isinstance(ring, Ring))
                        if found is not None:
                            form = forms[found[0]]
                            self.assertTrue(0 < number(found[1]) < form.breadth)
                            self.assertEqual((ring.rest, ring.by_p, ring.by_q), (form.rest, form.by_p, form.by_q))
                            self.assertEqual(len(ring.tops), len(form.slices))

    def test_great_bottoms(self):
        for gait in "pq":
            index, offset = lane_of_mark((2, 1), (3, 2), 5, ((1, FAR), gait))
            form = lane_forms((2, 1), (3, 2), 5)[index]
            low, high = [(low, high) for own, low, high in form.slices if own == gait and low == (0, 1)][0]
            self.assertEqual(number(offset), (number(high) - Fraction(1, FAR)) * (2 if gait == "p" else 3))

    def test_refused(self):
        refused_as_of_a_day(self, lane_of_mark, None)
        for mark in (None, ((0, 1), "p"), ((4, 1), "p"), ((1, 3), "r"), ((1, FAR + 1), "q"), ((8, 1), "q")):
            refused(self, BadMark, {"mark": mark}, lane_of_mark, (3, 1), (2, 1), 0, mark)
            refused(self, BadMark, {"mark": mark}, lane_of_mark, (3, 1), (8, 9), 0, mark)
        refused(self, TooMany, {"most": 400}, lane_of_mark, (51, 50), (1, 2), 0, ((1, 3), "p"))
        self.assertIsInstance(lane_of_mark((50, 50), (1, 2), 0, ((1, 3), "p")), tuple)


class Shows(unittest.TestCase):
    def comes_up(self, base, slope, height, spot, gait):
        """Where a ray that leaves the top comes up: (spot, gait), or None at a corner, by Fractions."""
        low = (spot + number(belt_shift(base, slope, height, gait))) % rim_of(base)
        if low in corner_spots(base):
            return None
        _, _, to_low, to_gait = line_over(base, slope, "bottom", low, gait)
        if to_low is None:
            return None
        to_spot = (to_low - number(belt_shift(base, slope, height, to_gait))) % rim_of(base)
        return None if to_spot in corner_spots(base) else (to_spot, to_gait)

    def test_each_stretch(self):
        for base, slope in bases_and_slopes(48):
            p, q = slope
            turns = {"pp": 1, "qq": 1, "pq": Fraction(q, p), "qp": Fraction(p, q)}
            for day in range(0, days_of(base, slope), 2):
                height = first_height(base, slope, day)
                shown = top_shows(base, slope, day)
                rows = [(s.gait, number(s.low), number(s.high), s.to_gait, number(s.to_low), number(s.to_high))
                        for s in shown]
                self.assertEqual(rows, sorted(rows))
                self.assertEqual(sorted((row[3:] + row[:3]) for row in rows), rows)
                for gait in "pq":
                    own = [row for row in rows if row[0] == gait]
                    self.assertEqual([row[1] for row in own] + [rim_of(base)], [0] + [row[2] for row in own])
                for gait, low, high, to_gait, to_low, to_high in rows:
                    turn = turns[gait + to_gait]
                    self.assertEqual((high - low) * turn, to_high - to_low)
                    unit = Fraction(1, p * q)
                    inside = [low + unit * k for k in range(1, int((high - low) / unit))] + [low + (high - low) / 3]
                    for spot in inside:
                        told = (to_high - (spot - low) * turn, to_gait)
                        self.assertEqual(self.comes_up(base, slope, height, spot, gait), told)
                    if low not in corner_spots(base):
                        self.assertIsNone(self.comes_up(base, slope, height, low, gait))

    def test_halves_of_the_calendar(self):
        for base, slope in bases_and_slopes(120):
            size = days_of(base, slope)
            if slope[0] % 2 == slope[1] % 2 == 1:
                for day in sorted({0, 1, size // 3, size // 2 - 1}):
                    self.assertEqual(lane_forms(base, slope, day), lane_forms(base, slope, day + size // 2))
                    self.assertEqual(top_shows(base, slope, day), top_shows(base, slope, day + size // 2))

    def test_tuples(self):
        shown = top_shows([2, 1], [1, 2], 3)
        self.assertIsInstance(shown, tuple)
        self.assertTrue(only_tuples(tuple(tuple(vars(stretch).values()) for stretch in shown)))

    def test_refused(self):
        refused_as_of_a_day(self, top_shows)
        refused(self, TooMany, {"most": 400}, top_shows, (51, 50), (1, 2), 0)
        self.assertGreater(len(top_shows((50, 50), (1, 2), 0)), 8)

    def test_sides(self):
        self.assertEqual([side_at((2, 1), Fraction(spot, 2)) for spot in (1, 3, 5, 7, 9, 11)], [0, 0, 1, 2, 2, 3])


if __name__ == "__main__":
    unittest.main()
