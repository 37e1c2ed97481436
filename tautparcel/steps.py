"""Entrances, and the straight passes of rays on one face."""

from tautparcel.errors import AtCorner, BadStart
from tautparcel.boxes import FACE_AXES
from tautparcel.places import check_place, corner_of_faces, faces_holding, framed
from tautparcel.ratios import ZERO, compare, least_of, minus, over, plus, times
from tautparcel.slopes import check_direction, reversed_direction, turned_over


class Pass:
    """The straight piece that a ray goes on one face."""
    def __init__(self, face, direction, start, end, length):
        self.face = face
        self.direction = direction
        self.start = start
        self.end = end
        self.length = length

    def __eq__(self, other):
        return (
            isinstance(other, Pass) and self.face == other.face and self.direction == other.direction
            and self.start == other.start and self.end == other.end and self.length == other.length
        )


def check_entrance(box, place, face, direction):
    """Returns the tuple of place, face and direction; corners are let."""
    return checked_start(box, place, face, direction, True)


def checked_start(box, place, face, direction, corners):
    """Returns the tuple of place, face and direction; `corners` tells whether corners are let."""
    place = check_place(box, place)
    direction = check_direction(face, direction)
    faces = faces_holding(box, place)
    if face not in faces:
        raise BadStart("face")
    if not corners and len(faces) == 3:
        raise BadStart("corner")
    others = [other for other in faces if other != face]
    if [other for other in others if direction[other // 2] == 0]:
        raise BadStart("along")
    if [other for other in others if (direction[other // 2] > 0) == (other % 2 == 1)]:
        raise BadStart("out")
    return (place, face, direction)


def time_to_end(box, place, axis, number):
    """Returns the length after which a ray with this number along the axis comes to an end of the side."""
    end = box.sides[axis] if number > 0 else 0
    return over(minus((end, 1), place[axis]), (number, 1))


def moved_place(place, direction, length):
    """Returns the place after so much length in a direction."""
    return tuple([plus(entry, times((number, 1), length)) for entry, number in zip(place, direction)])


def pass_along(box, place, face, direction):
    """Returns the pass from an entrance, and checks nothing."""
    axes = [axis for axis in FACE_AXES[face] if direction[axis] != 0]
    length = least_of([time_to_end(box, place, axis, direction[axis]) for axis in axes])
    return Pass(face, direction, place, moved_place(place, direction, length), length)


def pass_from(box, place, face, direction):
    """Returns the pass that begins at a place."""
    place, face, direction = check_entrance(box, place, face, direction)
    return pass_along(box, place, face, direction)


def back_pass(taken):
    """Returns the pass gone backwards."""
    return Pass(taken.face, reversed_direction(taken.direction), taken.end, taken.start, taken.length)


def whole_pass(box, place, face, direction):
    """Returns the whole pass through a place."""
    place, face, direction = check_entrance(box, place, face, direction)
    return whole_along(box, place, face, direction)


def whole_along(box, place, face, direction):
    """Returns the whole pass through an entrance, and checks nothing."""
    if len(faces_holding(box, place)) == 1:
        place = pass_along(box, place, face, reversed_direction(direction)).end
    return pass_along(box, place, face, direction)


def next_start(box, taken):
    """Returns the entrance with which the ray goes on behind a pass."""
    faces = faces_holding(box, taken.end)
    if len(faces) == 3:
        raise AtCorner(corner_of_faces(faces))
    beside = faces[1] if faces[0] == taken.face else faces[0]
    return (taken.end, beside, turned_over(taken.face, beside, taken.direction))


def pass_after(box, taken):
    """Returns the pass that follows a pass."""
    place, face, direction = next_start(box, taken)
    return pass_along(box, place, face, direction)


def pass_before(box, taken):
    """Returns the whole pass behind which a whole pass follows."""
    return back_pass(pass_after(box, back_pass(taken)))


def crossing_lengths(taken, met):
    """Returns the lengths that two passes have gone where they cross, or None."""
    if taken.face != met.face:
        return None
    first, second = framed(taken.face, taken.direction)
    one, other = framed(met.face, met.direction)
    turn = first * other - second * one
    if turn == 0:
        return None
    apart = [minus(far, near) for near, far in zip(framed(taken.face, taken.start), framed(met.face, met.start))]
    gone = over(turned_by(apart, one, other), (turn, 1))
    met_gone = over(turned_by(apart, first, second), (turn, 1))
    if not is_within(gone, taken.length) or not is_within(met_gone, met.length):
        return None
    return (gone, met_gone)


def turned_by(apart, first, second):
    """Returns how far a couple of ratios is turned from a couple of whole numbers."""
    return minus(times(apart[0], (second, 1)), times(apart[1], (first, 1)))


def is_within(gone, length):
    """Tells whether a ratio is from 0 to the length."""
    return compare(gone, ZERO) >= 0 and compare(gone, length) <= 0


def pass_crossing(taken, met):
    """Returns the place at which two passes cross, or None."""
    lengths = crossing_lengths(taken, met)
    if lengths is None:
        return None
    return moved_place(taken.start, taken.direction, lengths[0])
