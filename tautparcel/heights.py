"""All heights at which the lanes of a slope meet a goal."""

from tautparcel.belts import MOST_DAYS, check_base, check_days, check_height, height_of_day
from tautparcel.calendars import MOST_CALENDAR
from tautparcel.forms import crossings_by_form, growth_of, lanes_on
from tautparcel.goals import check_goal
from tautparcel.ratios import floor_of, lowest, minus
from tautparcel.rims import Rim
from tautparcel.slopes import check_slope


class Heights:
    """Heights by their days: rows (day, low, high), high None if there is no end."""
    def __init__(self, size, rows):
        self.size = size
        self.rows = rows

    def __eq__(self, other):
        return isinstance(other, Heights) and self.size == other.size and self.rows == other.rows

    def holds(self, height):
        """Tells whether a whole number from 1 is one of the heights."""
        for day, low, high in self.rows:
            if height % self.size == day and low <= height and (high is None or height <= high):
                return True
        return False

    def many_between(self, low, high):
        """Returns how many of the heights there are from low to high."""
        many = 0
        for day, first, last in self.rows:
            least = max(low, first)
            greatest = high if last is None else min(last, high)
            if least <= greatest:
                many += (greatest - day) // self.size - (least - 1 - day) // self.size
        return many


def last_height(rim, day, goal):
    """Returns the greatest height of a day that meets a goal, None if all do, and some number below all if none."""
    forms = lanes_on(rim, day)
    if goal[0] == "longest":
        return min([last_with_length(rim, day, form, goal[1]) for form in forms])
    if goal[0] == "lanes":
        return None if len(forms) == goal[1] else 0
    if goal[0] == "breadth":
        return None if [form for form in forms if form.breadth >= goal[1]] else 0
    return last_uncrossed(rim, day, forms)


def last_with_length(rim, day, form, length):
    """Returns the greatest whole number, of a day's heights, up to which a form is at most so long."""
    first, second = rim.slope
    grown = lowest(form.by_p * first + form.by_q * second, first * second)
    left = minus((length, 1), form.rest)
    greatest = floor_of(lowest(left[0] * grown[1], left[1] * grown[0]))
    return greatest - (greatest - day) % rim.days


def last_uncrossed(rim, day, forms):
    """Returns the greatest height of a day at which no ribbon crosses itself, None or 0."""
    height = height_of_day(rim.days, day)
    if [form for form in forms if crossings_by_form(rim, form, height) > 0]:
        return 0
    growing = [form for form in forms if growth_of(rim.slope, form.by_p, form.by_q) > 0]
    return height if growing else None


def height_fits(base, slope, height, goal):
    """Tells whether the box of a height meets a goal."""
    base = check_base(base)
    slope = check_slope(slope)
    check_height(height)
    goal = check_goal(goal)
    rim = Rim(base, slope)
    check_days(rim.days, MOST_DAYS)
    last = last_height(rim, height % rim.days, goal)
    return last is None or height <= last


def heights_with(base, slope, goal):
    """Returns the heights that meet a goal."""
    base = check_base(base)
    slope = check_slope(slope)
    goal = check_goal(goal)
    rim = Rim(base, slope)
    check_days(rim.days, MOST_CALENDAR)
    rows = []
    for day in range(rim.days):
        low = height_of_day(rim.days, day)
        high = last_height(rim, day, goal)
        if high is None or low <= high:
            rows.append((day, low, high))
    return Heights(rim.days, tuple(rows))
