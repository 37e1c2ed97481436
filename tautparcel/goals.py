"""Goals: what the lanes of a slope on a box are to be like."""

from tautparcel.errors import BadGoal
from tautparcel.ratios import is_sequence, is_whole

NUMBERED = ("lanes", "longest", "breadth")
NO_CROSSING = "no crossing"
MOST_NUMBER = 10 ** 18


def check_goal(goal):
    """Returns a goal as a tuple, or raises BadGoal."""
    if is_sequence(goal, 1, 1) and goal[0] == NO_CROSSING:
        return (NO_CROSSING,)
    if is_sequence(goal, 2, 2) and goal[0] in NUMBERED and is_whole(goal[1], 0, MOST_NUMBER):
        return tuple(goal)
    raise BadGoal(goal)
