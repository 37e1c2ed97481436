"""Places of a box's skin."""

from tautparcel.boxes import check_face, corner_bit, edge_between, face_axes
from tautparcel.errors import BadPlace
from tautparcel.ratios import compare, is_ratio, is_sequence

MOST_BOTTOM = 10 ** 12
KINDS = ("inside", "edge", "corner")


def check_place(box, place):
    """Returns a place of the box's skin as a tuple, or raises BadPlace."""
    if not is_sequence(place, 3, 3):
        raise BadPlace(place)
    for entry, side in zip(place, box.sides):
        if not is_ratio(entry) or entry[1] > MOST_BOTTOM or not 0 <= entry[0] <= side * entry[1]:
            raise BadPlace(place)
    fixed = tuple([tuple(entry) for entry in place])
    if faces_holding(box, fixed) == ():
        raise BadPlace(place)
    return fixed


def faces_holding(box, place):
    """Returns the faces on which a place lies, ascending, and checks nothing."""
    found = []
    for axis, entry in enumerate(place):
        if entry[0] == 0:
            found.append(2 * axis)
        elif entry[0] == box.sides[axis] * entry[1]:
            found.append(2 * axis + 1)
    return tuple(found)


def faces_at(box, place):
    """Returns the one, two or three faces on which a place lies, ascending."""
    return faces_holding(box, check_place(box, place))


def kind_of_place(box, place):
    """Returns "inside", "edge" or "corner"."""
    return KINDS[len(faces_at(box, place)) - 1]


def corner_of_faces(faces):
    """Returns the number of the corner of three ascending faces."""
    return 4 * (faces[0] % 2) + 2 * (faces[1] % 2) + faces[2] % 2


def corner_number(box, place):
    """Returns the number of the corner, or None if the place is no corner."""
    faces = faces_at(box, place)
    if len(faces) != 3:
        return None
    return corner_of_faces(faces)


def edge_of_place(box, place):
    """Returns the edge of the place, or None if it is inside a face or a corner."""
    faces = faces_at(box, place)
    if len(faces) != 2:
        return None
    return edge_between(faces[0], faces[1])


def place_of_corner(box, corner):
    """Returns the place of a corner, which is not checked."""
    return tuple([(side * corner_bit(corner, axis), 1) for axis, side in enumerate(box.sides)])


def end_of_face(box, face):
    """Returns the whole number that all places of the face have on its own axis."""
    return box.sides[face // 2] * (face % 2)


def place_on(box, face, first, second):
    """Returns the place of a face with two ratios over the face axes."""
    axes = face_axes(face)
    place = [(end_of_face(box, face), 1)] * 3
    place[axes[0]] = first
    place[axes[1]] = second
    return check_place(box, place)


def framed(face, triple):
    """Returns the entries of a triple over the face axes."""
    axes = face_axes(check_face(face))
    entries = [triple[axis] for axis in axes]
    return tuple([tuple(entry) if isinstance(entry, list) else entry for entry in entries])


def compare_places(one, other):
    """Returns -1, 0 or 1 as the first place is less, equal or greater by x, then y, then z."""
    for first, second in zip(one, other):
        found = compare(first, second)
        if found != 0:
            return found
    return 0


def numbers_over(place, bottom):
    """Returns the tops of a place's entries over one bottom, so that such places compare as tuples."""
    return tuple([entry[0] * (bottom // entry[1]) for entry in place])
