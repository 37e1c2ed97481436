"""Crossings of ribbons with themselves and with one another.

The passes of ribbons are told as lines by whole numbers: by their sides over one bottom, the `scale` of the ribbons.
"""

from tautparcel.boxes import FACE_AXES
from tautparcel.courses import course_of, square_of
from tautparcel.errors import BadLot, OtherBox, OtherSlope, SameRibbon, TooMany
from tautparcel.facerows import MOST_FACES
from tautparcel.places import check_place, end_of_face, numbers_over
from tautparcel.ratios import common_bottom, is_sequence, lowest
from tautparcel.ribbons import least_ribbon, moments_at
from tautparcel.slopes import ahead_number, side_number

MOST_RIBBONS = 6


class Crossing:
    """A place at which ribbons cross, and the two moments at which they are there."""
    def __init__(self, place, first, second):
        self.place = place
        self.first = first
        self.second = second

    def __eq__(self, other):
        return (
            isinstance(other, Crossing) and self.place == other.place and self.first == other.first
            and self.second == other.second
        )


class Line:
    """A pass of the ribbon with a number, by whole numbers over the scale.

    `first` and `second` are its direction over the face axes. How far ahead in its direction a place lies, and `lag`
    added to this, is the square of the direction times the moment there.
    """
    def __init__(self, number, face, steps, side, lag):
        self.number = number
        self.face = face
        self.first = steps[0]
        self.second = steps[1]
        self.side = side
        self.lag = lag


class Knot:
    """A crossing of two lines: a place of a face as (first, second, bottom), whole numbers over its axes."""
    def __init__(self, line, other, point):
        self.line = line
        self.other = other
        self.point = point


def scale_of(ribbons):
    """Returns a bottom over which all sides of ribbons are whole."""
    return common_bottom([entry for ribbon in ribbons for entry in ribbon.passes[0].start])


def lines_of(ribbon, number, scale):
    """Returns the lines of a ribbon, in the order of its passes."""
    begun = ribbon.passes[0]
    numbers = numbers_over(begun.start, scale)
    side = side_number(begun.face, begun.direction, numbers)
    course = course_of(ribbon.box, begun.face, begun.direction, side, scale, len(ribbon))
    ahead = ahead_number(begun.direction, numbers)
    lines = []
    for face, direction, line_side, gone in course.steps:
        first, second = FACE_AXES[face]
        lines.append(Line(number, face, (direction[first], direction[second]), line_side, gone * scale - ahead))
    return lines


def crossing_point(line, other, limits):
    """Returns where two lines of a face cross, not beyond the limits of the face, or None.

    The point is (first, second, turn): two whole numbers over turn times the scale, turn above 0.
    """
    turn = line.first * other.second - line.second * other.first
    first = other.first * line.side - line.first * other.side
    second = other.second * line.side - line.second * other.side
    if turn < 0:
        turn, first, second = -turn, -first, -second
    if turn == 0 or not 0 <= first <= limits[0] * turn or not 0 <= second <= limits[1] * turn:
        return None
    return (first, second, turn)


def by_faces(lines):
    """Returns the lines of each of the six faces."""
    return [[line for line in lines if line.face == face] for face in range(6)]


def limits_of(box, face, scale):
    """Returns the lengths of a face along its axes, times the scale."""
    first, second = FACE_AXES[face]
    return (box.sides[first] * scale, box.sides[second] * scale)


def knots_among(box, lines, scale):
    """Returns the knots of lines with one another; those on edges are told on both faces."""
    knots = []
    for face, held in enumerate(by_faces(lines)):
        limits = limits_of(box, face, scale)
        for index, line in enumerate(held):
            knots.extend(knots_of(line, held[:index], limits))
    return knots


def knots_between(box, lines, others, scale):
    """Returns the knots of lines with other lines; those on edges are told on both faces."""
    knots = []
    met = by_faces(others)
    for line in lines:
        knots.extend(knots_of(line, met[line.face], limits_of(box, line.face, scale)))
    return knots


def knots_of(line, others, limits):
    """Returns the knots of a line with other lines of its face."""
    found = [(other, crossing_point(line, other, limits)) for other in others]
    return [Knot(line, other, point) for other, point in found if point is not None]


def moment_top(line, point):
    """Returns the moment at which a line is at a point, times the scale, the turn and the square of its direction."""
    first, second, turn = point
    return line.first * first + line.second * second + line.lag * turn


def knot_numbers(box, knot, scale):
    """Returns the three whole numbers of a knot's place, over the scale times the turn of its point."""
    first, second, turn = knot.point
    face = knot.line.face
    numbers = [end_of_face(box, face) * scale * turn] * 3
    axes = FACE_AXES[face]
    numbers[axes[0]] = first
    numbers[axes[1]] = second
    return tuple(numbers)


class Meets:
    """The places at which ribbons of one slope cross: rows (numbers, strands), ascending.

    The numbers are those of the place over the bottom. The strands are two couples (number of the ribbon, moment),
    ascending, the moments over the bottom times the square of the slope.
    """
    def __init__(self, rows, bottom, square):
        self.rows = rows
        self.bottom = bottom
        self.square = square


def meets_from(ribbons, knots, scale):
    """Returns the Meets of knots between the ribbons, each place once."""
    square = square_of(ribbons[0].passes[0].direction)
    wholes = [ribbon.length * scale * square * square for ribbon in ribbons]
    found = {}
    for knot in knots:
        numbers = knot_numbers(ribbons[0].box, knot, scale)
        if numbers not in found:
            found[numbers] = strands_of(knot, wholes)
    return Meets([(numbers, found[numbers]) for numbers in sorted(found)], scale * square, square)


def strands_of(knot, wholes):
    """Returns the strands at a knot; the wholes are the lengths of the ribbons over the bottom of moments."""
    couples = []
    for line in (knot.line, knot.other):
        # The moment at which a ribbon comes to its end is the one at which it begins.
        couples.append((line.number, moment_top(line, knot.point) % wholes[line.number]))
    return tuple(sorted(couples))


def lines_in(ribbons, scale):
    """Returns the lines of ribbons, numbered from 0."""
    return [line for number, ribbon in enumerate(ribbons) for line in lines_of(ribbon, number, scale)]


def meets_among(ribbons):
    """Returns the Meets of ribbons of one slope with themselves and with one another."""
    scale = scale_of(ribbons)
    return meets_from(ribbons, knots_among(ribbons[0].box, lines_in(ribbons, scale), scale), scale)


def crossings_from(meets):
    """Returns the crossings of Meets."""
    found = []
    for numbers, strands in meets.rows:
        first, second = [strand_moment(meets, strand) for strand in strands]
        found.append(Crossing(place_of_numbers(numbers, meets.bottom), first, second))
    return tuple(found)


def strand_moment(meets, strand):
    """Returns the moment of a strand of Meets as a ratio."""
    return lowest(strand[1], meets.bottom * meets.square)


def place_of_numbers(numbers, bottom):
    """Returns the place of three whole numbers over a bottom."""
    return tuple([lowest(entry, bottom) for entry in numbers])


def check_many_passes(ribbons):
    """Raises TooMany if ribbons have too many passes together."""
    if sum([len(ribbon) for ribbon in ribbons]) > MOST_FACES:
        raise TooMany(MOST_FACES)


def crossings_of(ribbon):
    """Returns the crossings of a ribbon with itself, ascending by place."""
    check_many_passes([ribbon])
    return crossings_from(meets_among([ribbon]))


def crossings_between(ribbon, mate):
    """Returns the crossings of two unlike ribbons, ascending by place."""
    if ribbon.box != mate.box:
        raise OtherBox(mate.box.sides)
    if ribbon.slope != mate.slope:
        raise OtherSlope(mate.slope)
    if least_ribbon(ribbon) == least_ribbon(mate):
        raise SameRibbon(mate.length)
    couple = [ribbon, mate]
    check_many_passes(couple)
    scale = scale_of(couple)
    knots = knots_between(ribbon.box, lines_of(ribbon, 0, scale), lines_of(mate, 1, scale), scale)
    return crossings_from(meets_from(couple, knots, scale))


def check_lot(ribbons):
    """Returns a lot of unlike ribbons as a tuple; raises BadLot, then TooMany."""
    if not is_sequence(ribbons, 1, MOST_RIBBONS):
        raise BadLot(0, "many")
    earlier = []
    for index, ribbon in enumerate(ribbons):
        if ribbon.box != ribbons[0].box:
            raise BadLot(index, "box")
        if ribbon.slope != ribbons[0].slope:
            raise BadLot(index, "slope")
        least = least_ribbon(ribbon)
        if least in earlier:
            raise BadLot(index, "same")
        earlier.append(least)
    check_many_passes(ribbons)
    return tuple(ribbons)


def strands_at(ribbons, place):
    """Returns the couples (number, moment) of all ribbons of a lot at a place, ascending."""
    ribbons = check_lot(ribbons)
    fixed = check_place(ribbons[0].box, place)
    return tuple([
        (number, moment) for number, ribbon in enumerate(ribbons) for moment in moments_at(ribbon, fixed)
    ])
