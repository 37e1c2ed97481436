"""Bases and heights of boxes, spots on the rim, gaits over the belt, chords of the caps, and days."""

from tautparcel.boxes import LONGEST_SIDE
from tautparcel.errors import BadBase, BadCap, BadDay, BadGait, BadHeight, BadMark, BadSpot, TooMany
from tautparcel.places import MOST_BOTTOM
from tautparcel.ratios import compare, is_ratio, is_sequence, is_whole, lowest, minus, plus
from tautparcel.rims import CAPS, GAITS, Rim, box_corner, number_of_spot, over_cap, rim_corner, side_spots, spot_of
from tautparcel.slopes import check_slope

MOST_HEIGHT = 10 ** 9
MOST_DAYS = 400


class Chord:
    """A straight line over a cap, from a mark to a mark."""
    def __init__(self, cap, start, finish, length):
        self.cap = cap
        self.start = start
        self.finish = finish
        self.length = length

    def __eq__(self, other):
        return (
            isinstance(other, Chord) and self.cap == other.cap and self.start == other.start
            and self.finish == other.finish and self.length == other.length
        )


class CapCorner:
    """The corner at which a straight line over a cap ends, and the length to there."""
    def __init__(self, corner, length):
        self.corner = corner
        self.length = length

    def __eq__(self, other):
        return isinstance(other, CapCorner) and self.corner == other.corner and self.length == other.length


def check_base(base):
    """Returns a base as a tuple, or raises BadBase."""
    if not is_sequence(base, 2, 2):
        raise BadBase(0)
    for index, side in enumerate(base):
        if not is_whole(side, 1, LONGEST_SIDE):
            raise BadBase(index)
    return tuple(base)


def check_height(height):
    """Returns a height or raises BadHeight."""
    if not is_whole(height, 1, MOST_HEIGHT):
        raise BadHeight(height)
    return height


def rim_length(base):
    """Returns the length of the rim."""
    first, second = check_base(base)
    return 2 * (first + second)


def is_spot(base, spot):
    """Tells whether a thing is a spot of the rim of a base, which is not checked."""
    if not is_ratio(spot) or spot[1] > MOST_BOTTOM:
        return False
    return 0 <= spot[0] < 2 * (base[0] + base[1]) * spot[1]


def check_spot(base, spot):
    """Returns a spot as a tuple, or raises BadSpot."""
    base = check_base(base)
    if not is_spot(base, spot):
        raise BadSpot(spot)
    return tuple(spot)


def corner_spots(base):
    """Returns the spots of the corners of the rim of a base, ascending."""
    return tuple([(spot, 1) for spot in side_spots(base)[:4]])


def spot_place(base, spot):
    """Returns the couple (x, y) of a spot."""
    first, second = check_base(base)
    spot = check_spot(base, spot)
    corners = corner_spots((first, second))
    side = len([corner for corner in corners if compare(corner, spot) <= 0]) - 1
    gone = minus(spot, corners[side])
    if side == 0:
        return (gone, (0, 1))
    if side == 1:
        return ((first, 1), gone)
    if side == 2:
        return (minus((first, 1), gone), (second, 1))
    return ((0, 1), minus((second, 1), gone))


def spot_at(base, first, second):
    """Returns the spot of a place (x, y), which is not checked, or None if it does not lie on the rim."""
    width, depth = base
    corners = corner_spots(base)
    if not 0 <= first[0] <= width * first[1] or not 0 <= second[0] <= depth * second[1]:
        return None
    if second[0] == 0:
        return tuple(first)
    if first[0] == width * first[1]:
        return plus(corners[1], second)
    if second[0] == depth * second[1]:
        return plus(corners[2], minus((width, 1), first))
    if first[0] == 0:
        return plus(corners[3], minus((depth, 1), second))
    return None


def place_spot(base, place):
    """Returns the spot of a couple (x, y)."""
    base = check_base(base)
    if not is_sequence(place, 2, 2) or not is_ratio(place[0]) or not is_ratio(place[1]):
        raise BadSpot(place)
    spot = spot_at(base, place[0], place[1])
    if spot is None or spot[1] > MOST_BOTTOM:
        raise BadSpot(place)
    return spot


def check_gait(gait):
    """Returns a gait or raises BadGait."""
    if not isinstance(gait, str) or gait not in GAITS:
        raise BadGait(gait)
    return gait


def check_cap(cap):
    """Returns a cap or raises BadCap."""
    if not isinstance(cap, str) or cap not in CAPS:
        raise BadCap(cap)
    return cap


def check_mark(base, mark):
    """Returns a mark as a tuple of tuple and text, or raises BadMark."""
    base = check_base(base)
    if not is_sequence(mark, 2, 2) or not is_spot(base, mark[0]):
        raise BadMark(mark)
    spot, gait = tuple(mark[0]), mark[1]
    if not isinstance(gait, str) or gait not in GAITS or spot in corner_spots(base):
        raise BadMark(mark)
    return (spot, gait)


def belt_shift(base, slope, height, gait):
    """Returns what is added to the spot at the top to get the one at the bottom, from 0 to below the rim's length."""
    length = rim_length(base)
    first, second = check_slope(slope)
    check_height(height)
    if check_gait(gait) == "p":
        return lowest(-height * first % (length * second), second)
    return lowest(height * second % (length * first), first)


def chord_from(base, slope, cap, mark):
    """Returns the Chord of a cap from a mark on, or the CapCorner at which it ends."""
    base = check_base(base)
    slope = check_slope(slope)
    number_of_cap = CAPS.index(check_cap(cap))
    mark = check_mark(base, mark)
    rim = Rim(base, slope)
    spot, gait = mark[0], GAITS.index(mark[1])
    scale = spot[1]
    to_gait, number, length = over_cap(rim, number_of_cap, gait, number_of_spot(rim, gait, spot), scale)
    gone = lowest(length, slope[0] * slope[1] * scale)
    corner = rim_corner(rim, to_gait, number, scale)
    if corner is not None:
        return CapCorner(box_corner(number_of_cap, corner), gone)
    return Chord(cap, mark, (spot_of(rim, to_gait, number, scale), GAITS[to_gait]), gone)


def days_of(base, slope):
    """Returns the number of days of a base and a slope."""
    length = rim_length(base)
    first, second = check_slope(slope)
    return length * first * second


def day_of(base, slope, height):
    """Returns the day of a height."""
    days = days_of(base, slope)
    return check_height(height) % days


def check_day(base, slope, day):
    """Returns a day of a base and a slope, or raises BadDay."""
    if not is_whole(day, 0, days_of(base, slope) - 1):
        raise BadDay(day)
    return day


def check_days(days, most):
    """Raises TooMany if there are more days than so many."""
    if days > most:
        raise TooMany(most)


def height_of_day(days, day):
    """Returns the least height of a day, of so many days."""
    return days if day == 0 else day


def first_height(base, slope, day):
    """Returns the least height of a day."""
    check_day(base, slope, day)
    return height_of_day(days_of(base, slope), day)
