"""Rays from a place on, up to a corner or back to their beginning."""

from tautparcel.courses import corner_length, course_of
from tautparcel.errors import BadCount, TooMany
from tautparcel.places import faces_holding, numbers_over
from tautparcel.ratios import common_bottom, is_whole
from tautparcel.slopes import side_number, slope_on
from tautparcel.steps import check_entrance, next_start, pass_along

MOST_PASSES = 20000


class MeetsCorner:
    """The corner at which a ray ends, and how it comes there."""
    def __init__(self, corner, length, passes):
        self.corner = corner
        self.length = length
        self.passes = passes

    def __eq__(self, other):
        return (
            isinstance(other, MeetsCorner) and self.corner == other.corner and self.length == other.length
            and self.passes == other.passes
        )


def most_passes(box, slope):
    """Returns a number of passes that no ribbon of the slope exceeds."""
    return 4 * (slope[0] + slope[1]) * sum(box.sides)


def ray_of(box, place, face, direction, passes):
    """Yields at most so many passes of a ray, one after another."""
    place, face, direction = check_entrance(box, place, face, direction)
    if not is_whole(passes, 0, MOST_PASSES):
        raise BadCount(passes)
    for _ in range(passes):
        taken = pass_along(box, place, face, direction)
        yield taken
        if len(faces_holding(box, taken.end)) == 3:
            return
        place, face, direction = next_start(box, taken)


def check_passes(box, face, direction):
    """Raises TooMany if rays in the direction may have more passes than are followed."""
    if most_passes(box, slope_on(face, direction)) > MOST_PASSES:
        raise TooMany(MOST_PASSES)


def course_from(box, place, face, direction):
    """Follows the ray from an entrance, which is not checked, to its end."""
    bottom = common_bottom(place)
    side = side_number(face, direction, numbers_over(place, bottom))
    return course_of(box, face, direction, side, bottom, MOST_PASSES)


def corner_ahead(box, place, face, direction):
    """Returns the MeetsCorner of a ray, or None if it comes back to its entrance."""
    place, face, direction = check_entrance(box, place, face, direction)
    check_passes(box, face, direction)
    return corner_of_course(box, course_from(box, place, face, direction), place)


def corner_of_course(box, course, place):
    """Returns the MeetsCorner of a course from a place, or None."""
    if course.corner is None:
        return None
    return MeetsCorner(course.corner, corner_length(box, course, place), len(course.steps))
