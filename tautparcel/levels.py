"""Where ribbons cross levels, and the ribbons of bands that lie there."""

from tautparcel.errors import BadAxis, BadLevel, BadSlope
from tautparcel.places import MOST_BOTTOM
from tautparcel.ratios import ZERO, compare, is_ratio, is_whole, lowest, minus, over, plus
from tautparcel.ribbons import least_ribbon, ribbon_of, start_moments
from tautparcel.slopes import BAND
from tautparcel.steps import moved_place


class Crossed:
    """A moment at which a ribbon is at a level, the place, and whether it goes up there."""
    def __init__(self, moment, place, grows):
        self.moment = moment
        self.place = place
        self.grows = grows

    def __eq__(self, other):
        return (
            isinstance(other, Crossed) and self.moment == other.moment and self.place == other.place
            and self.grows == other.grows
        )


def check_axis(axis):
    """Returns the number of an axis, or raises BadAxis."""
    if not is_whole(axis, 0, 2):
        raise BadAxis(axis)
    return axis


def check_level(box, axis, level):
    """Returns a level of an axis as a tuple; raises BadAxis, then BadLevel."""
    check_axis(axis)
    if not is_ratio(level) or level[1] > MOST_BOTTOM or not 0 < level[0] < box.sides[axis] * level[1]:
        raise BadLevel(level)
    return tuple(level)


def level_moments(ribbon, axis, level):
    """Returns all moments of a ribbon at a level, ascending."""
    if ribbon.slope == BAND:
        raise BadSlope(BAND)
    level = check_level(ribbon.box, axis, level)
    found = []
    for taken, moment in zip(ribbon.passes, start_moments(ribbon)):
        step = taken.direction[axis]
        if step != 0:
            gone = over(minus(level, taken.start[axis]), (step, 1))
            # What a pass ends at belongs to the next pass.
            if compare(gone, ZERO) >= 0 and compare(gone, taken.length) < 0:
                place = moved_place(taken.start, taken.direction, gone)
                found.append(Crossed(plus(moment, gone), place, step > 0))
    return tuple(found)


def band_ribbon(box, axis, level):
    """Returns the least ribbon of the band round an axis that lies at a level."""
    level = check_level(box, axis, level)
    own, along = (axis + 1) % 3, (axis + 2) % 3
    place = [ZERO, ZERO, ZERO]
    place[axis] = level
    place[along] = lowest(box.sides[along], 2)
    direction = [0, 0, 0]
    direction[along] = 1
    return least_ribbon(ribbon_of(box, place, 2 * own, direction))
