import unittest
from fractions import Fraction

from beltwalk import bases_and_slopes
from helping import NO_NUMBERS, check_result, number, refused
from test_belts import NO_BASES, NO_SLOPES
from test_forms import told_or_none
from tautparcel.belts import days_of, first_height
from tautparcel.boxes import Box
from tautparcel.calendars import lanes_at, selfs_at
from tautparcel.crossings import crossings_of
from tautparcel.errors import BadBase, BadGoal, BadHeight, BadSlope, TooMany
from tautparcel.forms import lane_forms
from tautparcel.heights import Heights, height_fits, heights_with
from tautparcel.lanes import lanes_of
from tautparcel.wherelane import middle_ribbon

MOST = 10 ** 18
GOALS = [("lanes", 0), ("lanes", 2), ("lanes", 4), ["lanes", 8], ("lanes", MOST), ("longest", 0), ("longest", 3),
         ("longest", 10), ("longest", 57), ("longest", 300), ("longest", MOST), ("breadth", 0), ("breadth", 1),
         ("breadth", 2), ("breadth", 3), ("breadth", MOST), ("no crossing",), ["no crossing"]]
NO_GOALS = [None, "lanes", ("lanes",), ("no crossing", 0), ("lanes", -1), ("lanes", MOST + 1), ("lanes", True), ("x", 1)]


def meets(base, slope, height, goal):
    """Whether a goal is met, by the lanes at the height."""
    lanes = lanes_at(base, slope, height)
    if goal[0] == "lanes":
        return len(lanes) == goal[1]
    if goal[0] == "longest":
        return all(length <= goal[1] for _, length in lanes)
    if goal[0] == "breadth":
        return any(breadth >= goal[1] for breadth, _ in lanes)
    return set(selfs_at(base, slope, height)) == {0}


class Fits(unittest.TestCase):
    def test_goals(self):
        met = {True: 0, False: 0}
        for base, slope in bases_and_slopes(120):
            for height in (1, 5, 61, 10 ** 9):
                for goal in GOALS:
                    found = height_fits(list(base), list(slope), height, goal)
                    self.assertIs(found, meets(base, slope, height, goal))
                    met[found] += 1
        self.assertGreater(min(met.values()), 200)

    def test_real_lanes(self):
        for base, slope in bases_and_slopes(30):
            for height in range(1, 9):
                lanes = told_or_none(lanes_of, Box((*base, height)), slope)
                if lanes is not None and sum(len(lane.faces) for lane in lanes) < 400:
                    longest = max(lane.length for lane in lanes)
                    broadest = max(lane.breadth for lane in lanes)
                    for more in (-1, 0, 1):
                        told = [height_fits(base, slope, height, (word, least + more)) for word, least in
                                (("lanes", len(lanes)), ("longest", longest), ("breadth", broadest))]
                        self.assertEqual(told, [more == 0, more >= 0, more <= 0])
                    crossed = any(crossings_of(middle_ribbon(lane)) for lane in lanes)
                    self.assertIs(height_fits(base, slope, height, ("no crossing",)), not crossed)

    def test_refused(self):
        for base, index in NO_BASES:
            refused(self, BadBase, {"index": index}, height_fits, base, None, None, None)
        for slope in NO_SLOPES:
            refused(self, BadSlope, {"slope": slope}, height_fits, (60, 60), slope, None, None)
        for height in NO_NUMBERS + [0, 10 ** 9 + 1]:
            refused(self, BadHeight, {"height": height}, height_fits, (60, 60), (9, 8), height, None)
        for goal in NO_GOALS:
            refused(self, BadGoal, {"goal": goal}, height_fits, (60, 60), (9, 8), 1, goal)
        refused(self, TooMany, {"most": 400}, height_fits, (51, 50), (1, 2), 1, ("lanes", 2))
        self.assertIs(height_fits((50, 50), (1, 2), 1, ("lanes", 0)), False)


class With(unittest.TestCase):
    def test_height_by_height(self):
        kinds = {"end": 0, "none": 0, "open": 0}
        for base, slope in bases_and_slopes(18)[::2]:
            size = days_of(base, slope)
            for goal in GOALS:
                found = heights_with(list(base), list(slope), goal)
                self.assertEqual(found.size, size)
                self.assertIsInstance(found.rows, tuple)
                self.assertEqual(list(found.rows), sorted(found.rows, key=lambda row: row[0]))
                self.assertEqual(len({row[0] for row in found.rows}), len(found.rows))
                right = [height for height in range(1, 3 * size + 3) if meets(base, slope, height, goal)]
                self.assertEqual([height for height in range(1, 3 * size + 3) if found.holds(height)], right)
                self.assertEqual(found.many_between(1, 3 * size + 2), len(right))
                kinds["none"] += not found.rows
                for day, low, high in found.rows:
                    self.assertEqual(low, first_height(base, slope, day))
                    kinds["open" if high is None else "end"] += 1
                    if high is not None:
                        self.assertEqual(high % size, day)
                        self.assertIs(height_fits(base, slope, high, goal) if high <= 10 ** 9 else True, True)
                        if high + size <= 10 ** 9:
                            self.assertIs(height_fits(base, slope, high + size, goal), False)
        self.assertGreater(min(kinds.values()), 20, kinds)

    def test_far_ends(self):
        for base, slope in (((2, 1), (1, 2)), ((1, 1), (3, 1)), ((3, 2), (1, 1))):
            found = heights_with(base, slope, ("longest", MOST))
            self.assertEqual([row[0] for row in found.rows], list(range(days_of(base, slope))))
            for day, low, high in found.rows:
                self.assertGreater(high, 10 ** 9)
                longest = [max(number(form.rest) + height * (Fraction(form.by_p, slope[1]) + Fraction(form.by_q, slope[0]))
                               for form in lane_forms(base, slope, day)) for height in (high, high + found.size)]
                self.assertTrue(longest[0] <= MOST < longest[1])
                self.assertEqual([found.holds(high), found.holds(high + found.size)], [True, False])

    def test_longest_just_met(self):
        for base, slope in bases_and_slopes(24):
            size = days_of(base, slope)
            for height in (1, size, 5 * size + 1):
                longest = max(length for _, length in lanes_at(base, slope, height))
                for more in (-1, 0):
                    found = heights_with(base, slope, ("longest", longest + more))
                    self.assertIs(found.holds(height), more == 0)
                    if more == 0:
                        self.assertEqual([row[2] for row in found.rows if row[0] == height % size], [height])

    def test_sixty_days(self):
        self.assertEqual(heights_with((15, 15), (1, 1), ("lanes", 0)), Heights(60, ()))
        refused(self, TooMany, {"most": 60}, heights_with, (16, 15), (1, 1), ("lanes", 0))

    def test_refused(self):
        for base, index in NO_BASES:
            refused(self, BadBase, {"index": index}, heights_with, base, None, None)
        for slope in NO_SLOPES:
            refused(self, BadSlope, {"slope": slope}, heights_with, (60, 60), slope, None)
        for goal in NO_GOALS:
            refused(self, BadGoal, {"goal": goal}, heights_with, (60, 60), (9, 8), goal)


class Counted(unittest.TestCase):
    HEIGHTS = Heights(6, ((0, 6, 18), (1, 1, None), (4, 4, 4)))

    def test_at_the_ends_of_rows(self):
        held = [1, 4, 6, 7, 12, 13, 18, 19, 25, 31]
        self.assertEqual([height for height in range(1, 36) if self.HEIGHTS.holds(height)], held)
        for low in range(1, 34):
            for high in range(1, 34):
                told = len([height for height in held if low <= height <= high])
                self.assertEqual(self.HEIGHTS.many_between(low, high), told, (low, high))

    def test_far_up(self):
        self.assertTrue(self.HEIGHTS.holds(6 * 10 ** 20 + 1))
        self.assertFalse(self.HEIGHTS.holds(6 * 10 ** 20))
        self.assertEqual(self.HEIGHTS.many_between(1, 6 * 10 ** 20), 10 ** 20 + 4)
        self.assertEqual(self.HEIGHTS.many_between(10 ** 20, 1), 0)

    def test_without_rows(self):
        self.assertIs(Heights(4, ()).holds(3), False)
        self.assertEqual(Heights(4, ()).many_between(1, 100), 0)

    def test_it_is_a_result(self):
        check_result(self, Heights, ["size", "rows"])


if __name__ == "__main__":
    unittest.main()
