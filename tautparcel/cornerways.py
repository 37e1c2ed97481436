"""Corner ways: rays from a corner to a corner."""

from math import gcd

from tautparcel.boxes import check_corner, check_face, corner_bit, corner_numbers, faces_of_corner
from tautparcel.courses import corner_length, course_of, place_over
from tautparcel.errors import BadMost, NotAtCorner
from tautparcel.places import framed, place_of_corner
from tautparcel.ratios import is_whole
from tautparcel.rays import most_passes
from tautparcel.slopes import STEEPEST, check_slope, quarter_turns, side_number, unframed


class CornerWay:
    """A ray from a corner to a corner."""
    def __init__(self, box, slope, start, face, finish, last, length, faces):
        self.box = box
        self.slope = slope
        self.start = start
        self.face = face
        self.finish = finish
        self.last = last
        self.length = length
        self.faces = faces

    def __eq__(self, other):
        return (
            isinstance(other, CornerWay) and self.box == other.box and self.slope == other.slope
            and self.start == other.start and self.face == other.face and self.finish == other.finish
            and self.last == other.last and self.length == other.length and self.faces == other.faces
        )

    @property
    def key(self):
        """The corner at which the way begins, and its first face."""
        return (self.start, self.face)

    @property
    def back_key(self):
        """The key of the way gone backwards."""
        return (self.finish, self.last)

    @property
    def squared(self):
        """The square of the true length."""
        first, second = self.slope
        return self.length * self.length * (first * first + second * second)


def faces_round(corner):
    """Returns the three faces of a corner counterclockwise, beginning with that of axis x."""
    first, second, third = faces_of_corner(corner)
    zeros = [axis for axis in range(3) if corner_bit(corner, axis) == 0]
    return (first, second, third) if len(zeros) % 2 == 0 else (first, third, second)


def corner_direction(corner, face, slope):
    """Returns the direction of a slope that leads from a corner into a face."""
    check_corner(corner)
    check_face(face)
    if face not in faces_of_corner(corner):
        raise NotAtCorner(corner, face)
    first, second = check_slope(slope)
    return inward_direction(corner, face, (first, second))


def inward_direction(corner, face, slope):
    """Returns the direction that leads from a corner into a face at it, and checks nothing."""
    ends = framed(face, [corner_bit(corner, axis) for axis in range(3)])
    turns = quarter_turns(slope[0], slope[1])
    inward = [turn for turn in turns if [number < 0 for number in turn] == [end == 1 for end in ends]]
    return unframed(face, inward[0][0], inward[0][1])


def corner_way(box, corner, face, slope):
    """Returns the corner way of a slope from a corner into a face."""
    corner_direction(corner, face, slope)
    return way_from(box, corner, face, tuple(slope))


def corner_course(box, corner, face, slope):
    """Follows the ray of a corner way."""
    direction = inward_direction(corner, face, slope)
    side = side_number(face, direction, corner_numbers(box, corner))
    return course_of(box, face, direction, side, 1, most_passes(box, slope))


def way_from(box, corner, face, slope):
    """Returns the corner way from a corner into a face, and checks nothing."""
    course = corner_course(box, corner, face, slope)
    length = corner_length(box, course, place_of_corner(box, corner))[0]
    faces = tuple([step[0] for step in course.steps])
    return CornerWay(box, slope, corner, face, course.corner, faces[-1], length, faces)


def all_corner_ways(box, slope):
    """Returns the 24 corner ways of a slope, ascending by key."""
    slope = check_slope(slope)
    return tuple([way_from(box, corner, face, slope) for corner in range(8) for face in faces_of_corner(corner)])


def back_way(way):
    """Returns the way gone backwards."""
    faces = tuple(way.faces[::-1])
    return CornerWay(way.box, way.slope, way.finish, way.last, way.start, way.face, way.length, faces)


def way_places(way):
    """Returns the places at which the passes of a way begin, and the place at which it ends."""
    course = corner_course(way.box, way.start, way.face, way.slope)
    places = [place_of_corner(way.box, way.start)]
    for step, gate in zip(course.steps, course.gates):
        places.append(place_over(way.box, step[0], gate.face, step[1], step[2], 1))
    return tuple([*places, place_of_corner(way.box, way.finish)])


def shortest_ways(box, slope):
    """Returns the ways of the least length, ascending by key."""
    ways = all_corner_ways(box, slope)
    least = min([way.length for way in ways])
    return tuple([way for way in ways if way.length == least])


def check_steepest(most):
    """Returns a bound of the numbers of slopes, or raises BadMost."""
    if not is_whole(most, 1, STEEPEST):
        raise BadMost(most)
    return most


def ways_from(box, corner, most):
    """Yields all corner ways from a corner with slopes of numbers up to the most."""
    check_corner(corner)
    check_steepest(most)
    for slope in slopes_up_to(most):
        for face in faces_of_corner(corner):
            yield way_from(box, corner, face, slope)


def slopes_up_to(most):
    """Returns all slopes with numbers up to the most, ascending."""
    numbers = range(1, most + 1)
    return [(first, second) for first in numbers for second in numbers if gcd(first, second) == 1]


def straight_between(box, corner, other, most):
    """Returns the ways from a corner that end at the other one, ascending by true length, slope and face."""
    check_corner(corner)
    check_corner(other)
    ways = [way for way in ways_from(box, corner, most) if way.finish == other]
    return tuple(sorted(ways, key=lambda way: (way.squared, way.slope, way.face)))
