"""Goals at a box, and the slopes and sides with which they are met."""

from tautparcel.boxes import LONGEST_SIDE, Box
from tautparcel.crossings import meets_among
from tautparcel.errors import BadGoal, BadGoals, BadMost
from tautparcel.goals import check_goal
from tautparcel.lanes import lanes_of
from tautparcel.levels import check_axis
from tautparcel.ratios import is_sequence, is_whole
from tautparcel.shortribbons import slopes_to
from tautparcel.slopes import check_slope
from tautparcel.wherelane import middle_ribbon

MOST_GOALS = 6


def meets_goal(lanes, goal):
    """Tells whether all lanes of a slope, twins both, meet a goal, which is not checked."""
    if goal[0] == "lanes":
        return len(lanes) == goal[1]
    if goal[0] == "longest":
        return max([lane.length for lane in lanes]) <= goal[1]
    if goal[0] == "breadth":
        return max([lane.breadth for lane in lanes]) >= goal[1]
    # A twin crosses itself as often as its lane does, and all ribbons of a lane do so equally often.
    crossed = [lane for lane in lanes.lanes[::2] if meets_among([middle_ribbon(lane)]).rows]
    return crossed == []


def meets_at_box(box, slope, goal):
    """Tells whether the lanes of a slope on a box meet a goal."""
    slope = check_slope(slope)
    goal = check_goal(goal)
    return meets_goal(lanes_of(box, slope), goal)


def check_goals(goals):
    """Returns one to six goals as a tuple, or raises BadGoals."""
    if not is_sequence(goals, 1, MOST_GOALS):
        raise BadGoals(0)
    checked = []
    for index, goal in enumerate(goals):
        try:
            checked.append(check_goal(goal))
        except BadGoal:
            raise BadGoals(index)
    return tuple(checked)


def first_unmet(box, slope, goals):
    """Returns the index of the first goal that is not met, or None."""
    slope = check_slope(slope)
    goals = check_goals(goals)
    lanes = lanes_of(box, slope)
    for index, goal in enumerate(goals):
        if not meets_goal(lanes, goal):
            return index
    return None


def slopes_with(box, goal, steep):
    """Returns the slopes up to a bound with which a goal is met, ascending."""
    goal = check_goal(goal)
    return tuple([slope for slope in slopes_to(steep) if meets_goal(lanes_of(box, slope), goal)])


def sides_with(box, slope, axis, most, goal):
    """Returns the lengths of the side along an axis with which a goal is met, ascending."""
    slope = check_slope(slope)
    check_axis(axis)
    if not is_whole(most, 1, LONGEST_SIDE):
        raise BadMost(most)
    goal = check_goal(goal)
    found = []
    for side in range(1, most + 1):
        sides = list(box.sides)
        sides[axis] = side
        if meets_goal(lanes_of(Box(tuple(sides)), slope), goal):
            found.append(side)
    return tuple(found)
