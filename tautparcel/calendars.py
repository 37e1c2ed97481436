"""Calendars: the lane forms of all days, and lanes and crossings at any height."""

from tautparcel.belts import MOST_DAYS, check_base, check_days, check_height
from tautparcel.forms import crossings_by_form, lanes_on
from tautparcel.rims import Rim
from tautparcel.slopes import check_slope
from tautparcel.trails import form_at_height

MOST_CALENDAR = 60


class Calendar:
    """The lane forms of all days of a base and a slope."""
    def __init__(self, base, slope, size, rows):
        self.base = base
        self.slope = slope
        self.size = size
        self.rows = rows

    def __eq__(self, other):
        return (
            isinstance(other, Calendar) and self.base == other.base and self.slope == other.slope
            and self.size == other.size and self.rows == other.rows
        )


def make_calendar(base, slope):
    """Returns the calendar of a base and a slope."""
    base = check_base(base)
    slope = check_slope(slope)
    rim = Rim(base, slope)
    check_days(rim.days, MOST_CALENDAR)
    return Calendar(base, slope, rim.days, tuple([lanes_on(rim, day) for day in range(rim.days)]))


def least_period(calendar):
    """Returns the least number of days after which the lane forms of a calendar come again."""
    size, rows = calendar.size, calendar.rows
    periods = [number for number in range(1, size + 1) if size % number == 0]
    return [number for number in periods if tuple(rows) == (*rows[number:], *rows[:number])][0]


def rim_at(base, slope, height):
    """Returns the rim of a base and a slope; raises BadBase, BadSlope, BadHeight, TooMany."""
    base = check_base(base)
    slope = check_slope(slope)
    check_height(height)
    rim = Rim(base, slope)
    check_days(rim.days, MOST_DAYS)
    return rim


def lanes_at(base, slope, height):
    """Returns the couples (breadth, length) of all lanes at a height, ascending."""
    rim = rim_at(base, slope, height)
    forms = lanes_on(rim, height % rim.days)
    return tuple(sorted([(form.breadth, form_at_height(rim.slope, form, height)[0]) for form in forms]))


def selfs_at(base, slope, height):
    """Returns how often a ribbon of each lane crosses itself at a height, in the order of the lane forms."""
    rim = rim_at(base, slope, height)
    return tuple([crossings_by_form(rim, form, height) for form in lanes_on(rim, height % rim.days)])
