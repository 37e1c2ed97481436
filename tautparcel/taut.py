"""Taut rows of faces and their lanes."""

from math import gcd

from tautparcel.boxes import Box
from tautparcel.courses import course_of, starts_of
from tautparcel.errors import BadMost, BadOffset
from tautparcel.facerows import least_either, single_length
from tautparcel.places import framed
from tautparcel.ratios import ZERO, compare, is_ratio, is_whole, plus
from tautparcel.ribbons import passes_of
from tautparcel.slopes import slope_on, unframed
from tautparcel.unfolding import gate_corners, gates_at, laid_gates, point_at, unfold_row

MOST_OFFSET_BOTTOM = 1000


class Lane:
    """All ribbons with one row of faces."""
    def __init__(self, box, faces, direction, low, length, breadth):
        self.box = box
        self.faces = faces
        self.direction = direction
        self.low = low
        self.length = length
        self.breadth = breadth
        self.slope = slope_on(faces[0], direction)
        self.row = least_either(tuple(faces))

    def __eq__(self, other):
        return (
            isinstance(other, Lane) and self.box == other.box and self.faces == other.faces
            and self.direction == other.direction and self.low == other.low and self.length == other.length
            and self.breadth == other.breadth and self.slope == other.slope and self.row == other.row
        )


class NotTaut:
    """Why a row of faces is not taut."""
    def __init__(self, what, first, second):
        self.what = what
        self.first = first
        self.second = second

    def __eq__(self, other):
        return (
            isinstance(other, NotTaut) and self.what == other.what and self.first == other.first
            and self.second == other.second
        )


class Slide:
    """The gates whose ends lie on the borders of a lane."""
    def __init__(self, right, left):
        self.right = right
        self.left = left

    def __eq__(self, other):
        return isinstance(other, Slide) and self.right == other.right and self.left == other.left


def taut_row(box, row):
    """Returns the Lane of a row of faces, or why it is not taut."""
    return lane_or_not(box, unfold_row(row))


def lane_or_not(box, unfolded):
    """Returns the Lane of an unfolded row at a box, or why it is not taut."""
    single = single_length(unfolded.row)
    if single < len(unfolded.row):
        return NotTaut("repeated", single, 0)
    if unfolded.turn != 0:
        return NotTaut("turned", unfolded.turn, 0)
    first, second = point_at(box, unfolded.shift)
    length = gcd(first, second)
    if length == 0:
        return NotTaut("still", 0, 0)
    first, second = first // length, second // length
    rights, lefts = end_sides(laid_gates(box, unfolded), first, second)
    low, high = max(rights), min(lefts)
    if low >= high:
        return NotTaut("apart", rights.index(low), lefts.index(high))
    direction = unframed(unfolded.row[0], first, second)
    return Lane(box, unfolded.row, direction, low, length, high - low)


def end_sides(gates, first, second):
    """Returns the side numbers of the right ends and of the left ends of gates, as two lists."""
    rights = [first * right[1] - second * right[0] for right, _ in gates]
    lefts = [first * left[1] - second * left[0] for _, left in gates]
    return (rights, lefts)


def slide_of(lane):
    """Returns the gates and corners on the borders of a lane."""
    first, second = framed(lane.faces[0], lane.direction)
    rights, lefts = end_sides(gates_at(lane.box, lane.faces), first, second)
    corners = gate_corners(lane.faces)
    high = lane.low + lane.breadth
    right = [(gate, corners[gate][0]) for gate, side in enumerate(rights) if side == lane.low]
    left = [(gate, corners[gate][1]) for gate, side in enumerate(lefts) if side == high]
    return Slide(tuple(right), tuple(left))


def check_offset(lane, offset):
    """Returns an offset in a lane as a tuple, or raises BadOffset."""
    if not is_ratio(offset) or offset[1] > MOST_OFFSET_BOTTOM:
        raise BadOffset(offset)
    if compare(offset, ZERO) <= 0 or compare(offset, (lane.breadth, 1)) >= 0:
        raise BadOffset(offset)
    return tuple(offset)


def lane_passes(lane, offset):
    """Returns the passes of the ribbon with an offset, in the order of the lane's faces."""
    top, bottom = offset
    side = lane.low * bottom + top
    course = course_of(lane.box, lane.faces[0], lane.direction, side, bottom, len(lane.faces))
    return passes_of(course, starts_of(lane.box, course, bottom))


def entrances_in(lane, offset):
    """Returns the moments and entrances of the ribbon with an offset in a lane."""
    moment = ZERO
    found = []
    for taken in lane_passes(lane, check_offset(lane, offset)):
        found.append((moment, (taken.start, taken.face, taken.direction)))
        moment = plus(moment, taken.length)
    return tuple(found)


def rows_through(box, most):
    """Yields the least rows of all lanes of at most so many faces, the shorter ones first."""
    if not is_whole(most, 4, 6):
        raise BadMost(most)
    for many in range(3, most + 1):
        for row in least_rows(many):
            if isinstance(taut_row(box, row), Lane):
                yield row


def least_rows(many):
    """Returns all rows of so many faces that are their own least rows, ascending."""
    rows = [(face,) for face in range(6)]
    for _ in range(many - 1):
        rows = [(*row, face) for row in rows for face in range(6) if goes_on(row, face)]
    return [row for row in rows if goes_round(row) and least_either(row) == row]


def goes_on(row, face):
    """Tells whether a beginning of a least row may go on with a face."""
    return face >= row[0] and face // 2 != row[-1] // 2 and (len(row) < 2 or face != row[-2])


def goes_round(row):
    """Tells whether the last faces of a row stand well before the first ones."""
    return row[-1] // 2 != row[0] // 2 and row[-1] != row[1] and row[-2] != row[0]


def boxes_of_row(row, most):
    """Returns the sides of all boxes with sides up to the most at which a row is taut."""
    unfolded = unfold_row(row)
    if not is_whole(most, 1, 6):
        raise BadMost(most)
    sizes = range(1, most + 1)
    found = []
    for sides in [(first, second, third) for first in sizes for second in sizes for third in sizes]:
        if isinstance(lane_or_not(Box(sides), unfolded), Lane):
            found.append(sides)
    return tuple(found)
