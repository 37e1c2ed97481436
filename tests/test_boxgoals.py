import unittest

from beltwalk import bases_and_slopes
from helping import BOXES, NO_NUMBERS, SLOPES, refused
from test_belts import NO_SLOPES
from test_forms import told_or_none
from test_heights import GOALS, NO_GOALS
from tautparcel.along import all_hows, led_box, led_slope, scaled_box
from tautparcel.boxes import Box
from tautparcel.boxgoals import check_goals, first_unmet, meets_at_box, sides_with, slopes_with
from tautparcel.crossings import crossings_of
from tautparcel.errors import BadAxis, BadGoal, BadGoals, BadMost, BadSlope, BadSteep, TooMany
from tautparcel.heights import height_fits
from tautparcel.lanes import lanes_of
from tautparcel.ribbons import back_ribbon
from tautparcel.shortribbons import slopes_to
from tautparcel.wherelane import ribbon_in

# Its lanes of the slope (9, 8) have too many faces, those of (1, 1) and (9, 7) do not.
LONG = Box((3, 5, 7))
FEW = [("lanes", 4), ("lanes", 8), ("longest", 10), ("longest", 40), ("breadth", 2), ("no crossing",)]


class AtABox(unittest.TestCase):
    def test_lanes(self):
        met = {True: 0, False: 0}
        for box in BOXES:
            for slope in SLOPES:
                lanes = told_or_none(lanes_of, box, slope)
                if lanes is None or max(len(lane.faces) for lane in lanes) > 150:
                    continue
                longest = max(lane.length for lane in lanes)
                broadest = max(lane.breadth for lane in lanes)
                for more in (-1, 0, 1):
                    told = [meets_at_box(box, list(slope), [word, many + more]) for word, many in
                            (("lanes", len(lanes)), ("longest", longest), ("breadth", broadest))]
                    self.assertEqual(told, [more == 0, more >= 0, more <= 0])
                crossed = any(crossings_of(back_ribbon(ribbon_in(lane, (1, 3)))) for lane in lanes)
                found = meets_at_box(box, slope, ("no crossing",))
                self.assertIs(found, not crossed)
                met[found] += 1
        self.assertGreater(min(met.values()), 3)

    def test_as_heights_fit_seen_along_each_axis(self):
        hows = [((0, 1, 2), (1, 1, 1)), ((1, 2, 0), (1, 1, 1)), ((2, 0, 1), (1, 1, 1)), ((1, 0, 2), (1, -1, 1)),
                ((2, 1, 0), (1, 1, 1)), ((0, 2, 1), (-1, 1, -1))]
        for box in BOXES[1:6]:
            for slope in SLOPES[:4]:
                for how in hows:
                    seen, steep = led_box(box, how), led_slope(slope, how)
                    for goal in FEW:
                        try:
                            found = meets_at_box(box, slope, goal)
                            told = height_fits(seen.sides[:2], steep, seen.sides[2], goal)
                        except TooMany:
                            continue
                        self.assertIs(found, told, (box.sides, slope, how, goal))

    def test_height_by_height(self):
        for base, slope in bases_and_slopes(20)[::2]:
            for height in (1, 3, 4):
                for goal in GOALS:
                    self.assertIs(meets_at_box(Box((*base, height)), slope, goal), height_fits(base, slope, height, goal))

    def test_seen_otherwise_and_scaled(self):
        box, slope = Box((1, 2, 3)), (2, 1)
        for goal in FEW:
            for how in all_hows()[::5]:
                self.assertIs(meets_at_box(led_box(box, how), led_slope(slope, how), goal), meets_at_box(box, slope, goal))
        for size in (2, 5):
            for goal in (("lanes", 4), ("lanes", 6), ("no crossing",)):
                for sides in ((1, 2, 3), (1, 1, 1), (2, 2, 1)):
                    box = Box(sides)
                    self.assertIs(meets_at_box(scaled_box(box, size), slope, goal), meets_at_box(box, slope, goal))

    def test_refused(self):
        for slope in NO_SLOPES:
            refused(self, BadSlope, {"slope": slope}, meets_at_box, LONG, slope, None)
        for goal in NO_GOALS:
            refused(self, BadGoal, {"goal": goal}, meets_at_box, LONG, (9, 8), goal)
        refused(self, TooMany, {"most": 400}, meets_at_box, LONG, (9, 8), ("lanes", 4))
        self.assertIs(meets_at_box(LONG, (9, 7), ("lanes", 8)), True)


class Goals(unittest.TestCase):
    def test_one_to_six(self):
        for many in range(1, 7):
            for goals in (FEW[:many], tuple(list(goal) for goal in FEW[:many])):
                self.assertEqual(check_goals(goals), tuple(FEW[:many]))
                self.assertTrue(all(isinstance(goal, tuple) for goal in check_goals(goals)))

    def test_refused(self):
        for goals in (None, 5, "lanes", (), [], FEW + FEW[:1], {("lanes", 4): 1}, [None] * 7):
            refused(self, BadGoals, {"index": 0}, check_goals, goals)
            refused(self, BadGoals, {"index": 0}, first_unmet, LONG, (9, 8), goals)
        for goal in NO_GOALS:
            for index in range(6):
                goals = FEW[:index] + [goal] + [None] * (5 - index)
                refused(self, BadGoals, {"index": index}, check_goals, goals)
                refused(self, BadGoals, {"index": index}, first_unmet, LONG, (9, 8), tuple(goals))

    def test_first_unmet(self):
        box = Box((1, 1, 1))
        yes, no = ("lanes", 8), ("lanes", 4)
        self.assertIsNone(first_unmet(box, [1, 1], [yes]))
        self.assertIsNone(first_unmet(box, (1, 1), (yes, ["longest", 3], ("breadth", 1), ["no crossing"], yes, yes)))
        for index in range(6):
            goals = [yes] * index + [no] + [yes, no][:5 - index]
            self.assertEqual(first_unmet(box, (1, 1), goals), index)

    def test_first_unmet_refused(self):
        for slope in NO_SLOPES:
            refused(self, BadSlope, {"slope": slope}, first_unmet, LONG, slope, None)
        refused(self, TooMany, {"most": 400}, first_unmet, LONG, (9, 8), FEW)


class Slopes(unittest.TestCase):
    def test_with_a_goal(self):
        for sides in ((1, 1, 1), (1, 1, 2), (2, 1, 3)):
            box = Box(sides)
            for goal in FEW:
                for steep in (1, 4):
                    told = tuple(slope for slope in slopes_to(steep) if meets_at_box(box, slope, goal))
                    self.assertEqual(slopes_with(box, list(goal), steep), told)
        self.assertIn((9, 8), slopes_with(Box((1, 1, 1)), ("lanes", 6), 9))

    def test_refused(self):
        for goal in NO_GOALS:
            refused(self, BadGoal, {"goal": goal}, slopes_with, LONG, goal, None)
        for steep in NO_NUMBERS + [0, 10]:
            refused(self, BadSteep, {"steep": steep}, slopes_with, LONG, ("lanes", 4), steep)
        refused(self, TooMany, {"most": 400}, slopes_with, LONG, ("lanes", 0), 9)


class Sides(unittest.TestCase):
    def test_with_a_goal(self):
        for sides, slope in (((1, 1, 1), (1, 1)), ((2, 1, 9), (1, 2)), ((2, 3, 1), (2, 1))):
            for axis in range(3):
                for goal in FEW:
                    told = []
                    for side in range(1, 8):
                        other = list(sides)
                        other[axis] = side
                        if meets_at_box(Box(other), slope, goal):
                            told.append(side)
                    for most in (1, 4, 7):
                        found = sides_with(Box(sides), list(slope), axis, most, list(goal))
                        self.assertEqual(found, tuple(side for side in told if side <= most))

    def test_sixty(self):
        found = sides_with(Box((1, 1, 7)), (1, 1), 2, 60, ("lanes", 8))
        self.assertEqual(found, tuple(side for side in range(1, 61) if side % 2))

    def test_refused(self):
        for slope in NO_SLOPES:
            refused(self, BadSlope, {"slope": slope}, sides_with, LONG, slope, None, None, None)
        for axis in NO_NUMBERS + [-1, 3]:
            refused(self, BadAxis, {"axis": axis}, sides_with, LONG, (9, 8), axis, None, None)
        for most in NO_NUMBERS + [0, 61]:
            refused(self, BadMost, {"most": most}, sides_with, LONG, (9, 8), 2, most, None)
        for goal in NO_GOALS:
            refused(self, BadGoal, {"goal": goal}, sides_with, LONG, (9, 8), 2, 60, goal)
        refused(self, TooMany, {"most": 400}, sides_with, LONG, (9, 8), 2, 60, ("lanes", 0))
        # Only the sides up to the most are asked.
        self.assertEqual(sides_with(Box((1, 1, 60)), (9, 8), 2, 1, ("lanes", 6)), (1,))


if __name__ == "__main__":
    unittest.main()
