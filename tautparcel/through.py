"""Ribbons through a place."""

from tautparcel.errors import BadStart
from tautparcel.farplaces import when_at
from tautparcel.places import check_place, faces_holding
from tautparcel.ribbons import Ribbon, least_ribbon, length_square, ribbon_of
from tautparcel.shortribbons import slopes_to
from tautparcel.slopes import check_slope, directions_on, outward_step


class Through:
    """A ribbon, and its moments at a place."""
    def __init__(self, ribbon, moments):
        self.ribbon = ribbon
        self.moments = moments

    def __eq__(self, other):
        return isinstance(other, Through) and self.ribbon == other.ribbon and self.moments == other.moments


def check_no_corner(box, place):
    """Raises BadStart if a place is a corner."""
    if len(faces_holding(box, place)) == 3:
        raise BadStart("corner")


def checked_way(box, place, slope):
    """Returns a place and a slope as tuples; raises BadPlace, BadSlope, BadStart."""
    place = check_place(box, place)
    slope = check_slope(slope)
    check_no_corner(box, place)
    return (place, slope)


def ways_through(box, place, slope):
    """Returns the couples (face, direction) of the four entrances of a slope that begin at a place, ascending."""
    place, slope = checked_way(box, place, slope)
    return ways_at(box, place, slope)


def ways_at(box, place, slope):
    """Returns the four entrances of a slope at a place, and checks nothing."""
    faces = faces_holding(box, place)
    found = []
    for face in faces:
        others = [other for other in faces if other != face]
        for direction in directions_on(face, slope):
            if [other for other in others if outward_step(other, direction) > 0] == []:
                found.append((face, direction))
    return tuple(found)


def ribbons_through(box, place, slope):
    """Returns the ribbons of a slope through a place, each once, with their moments there."""
    place, slope = checked_way(box, place, slope)
    return through_at(box, place, slope)


def through_at(box, place, slope):
    """Returns the ribbons of a slope through a place, and checks nothing."""
    found = []
    for face, direction in ways_at(box, place, slope):
        ribbon = ribbon_of(box, place, face, direction)
        if isinstance(ribbon, Ribbon):
            least = least_ribbon(ribbon)
            if least not in [through.ribbon for through in found]:
                found.append(Through(least, when_at(least, place)))
    return tuple(found)


def shortest_through(box, place, steep):
    """Returns the shortest ribbons of all slopes up to a bound through a place."""
    place = check_place(box, place)
    slopes = slopes_to(steep)
    check_no_corner(box, place)
    found = []
    for slope in slopes:
        found.extend(through_at(box, place, slope))
    if not found:
        return ()
    least = min([length_square(through.ribbon) for through in found])
    return tuple([through for through in found if length_square(through.ribbon) == least])
