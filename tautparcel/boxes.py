"""Boxes with their faces, corners and edges."""

from tautparcel.errors import BadBox, BadCorner, BadEdge, BadFace, NoEdge
from tautparcel.ratios import is_sequence, is_whole

LONGEST_SIDE = 60
FACE_AXES = ((2, 1), (1, 2), (0, 2), (2, 0), (1, 0), (0, 1))


class Box:
    """A box with three whole sides."""
    def __init__(self, sides):
        if not is_sequence(sides, 3, 3):
            raise BadBox(0)
        for index, side in enumerate(sides):
            if not is_whole(side, 1, LONGEST_SIDE):
                raise BadBox(index)
        self.sides = tuple(sides)

    def __eq__(self, other):
        return isinstance(other, Box) and self.sides == other.sides

    @property
    def skin_area(self):
        """The area of all six faces."""
        first, second, third = self.sides
        return 2 * (first * second + second * third + third * first)

    @property
    def corner_places(self):
        """The places of the eight corners, ascending."""
        places = [corner_numbers(self, corner) for corner in range(8)]
        return tuple([tuple([(number, 1) for number in place]) for place in places])


def check_face(face):
    """Returns a face or raises BadFace."""
    if not is_whole(face, 0, 5):
        raise BadFace(face)
    return face


def check_corner(corner):
    """Returns the number of a corner or raises BadCorner."""
    if not is_whole(corner, 0, 7):
        raise BadCorner(corner)
    return corner


def corner_bit(corner, axis):
    """Returns 1 if the corner is at the far end of the side along the axis, else 0."""
    return corner >> (2 - axis) & 1


def corner_numbers(box, corner):
    """Returns the three whole numbers x, y, z of a corner."""
    return tuple([side * corner_bit(corner, axis) for axis, side in enumerate(box.sides)])


def face_axes(face):
    """Returns the couple of axes over which directions on the face are told."""
    return FACE_AXES[check_face(face)]


def are_beside(face, other):
    """Tells whether two faces have a common edge."""
    return check_face(face) // 2 != check_face(other) // 2


def faces_beside(face):
    """Returns the four faces beside a face, ascending."""
    check_face(face)
    return tuple([other for other in range(6) if other // 2 != face // 2])


def faces_of_corner(corner):
    """Returns the three faces at a corner, ascending."""
    check_corner(corner)
    return tuple([2 * axis + corner_bit(corner, axis) for axis in range(3)])


def all_edges():
    """Returns the twelve edges, ascending."""
    return tuple([(low, high) for low in range(8) for high in range(low + 1, 8) if low ^ high in (1, 2, 4)])


def check_edge(edge):
    """Returns the edge of a couple of corners, the lesser one first; raises BadEdge."""
    if not is_sequence(edge, 2, 2):
        raise BadEdge(edge)
    low, high = edge
    if not is_whole(low, 0, 7) or not is_whole(high, 0, 7) or low ^ high not in (1, 2, 4):
        raise BadEdge(edge)
    return (min(low, high), max(low, high))


def faces_of_edge(edge):
    """Returns the two faces of an edge, ascending."""
    low, high = check_edge(edge)
    return tuple([face for face in faces_of_corner(low) if face in faces_of_corner(high)])


def edge_between(face, beside):
    """Returns the common edge of two faces."""
    if not are_beside(face, beside):
        raise NoEdge(face, beside)
    right, left = edge_ends(face, beside)
    return (min(right, left), max(right, left))


def edge_ends(face, beside):
    """Returns the corners at the right and the left end of an edge, as seen when one goes over it to `beside`."""
    first, second = FACE_AXES[face]
    along = second if beside // 2 == first else first
    base = (face % 2) << (2 - face // 2) | (beside % 2) << (2 - beside // 2)
    near, far = base, base | 1 << (2 - along)
    # To the left of the first axis lies the second one, to the left of the second one the first one backwards.
    if (along == second) == (beside % 2 == 1):
        return (near, far)
    return (far, near)
