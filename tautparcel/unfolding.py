"""Rows of faces laid flat, one face after another, for all boxes at once."""

from tautparcel.boxes import FACE_AXES, corner_bit, edge_ends
from tautparcel.errors import BadPlace, BadPoint
from tautparcel.facerows import check_facerow, check_index
from tautparcel.places import check_place, end_of_face, faces_holding, framed
from tautparcel.ratios import is_ratio, is_sequence, minus, negative, plus

NOWHERE = ((0, 0, 0), (0, 0, 0))


class Unfolded:
    """A row of faces laid flat."""
    def __init__(self, row, placings, gates):
        self.row = row
        self.placings = placings
        self.gates = gates

    def __eq__(self, other):
        return (
            isinstance(other, Unfolded) and self.row == other.row and self.placings == other.placings
            and self.gates == other.gates
        )

    @property
    def turn(self):
        """The turn of the last placing."""
        return self.placings[-1][0]

    @property
    def shift(self):
        """The origin of the last placing."""
        return self.placings[-1][1]


def corner_form(corner, axis):
    """Returns the form of a corner's number along an axis."""
    return tuple([corner_bit(corner, axis) if other == axis else 0 for other in range(3)])


def corner_point(face, corner):
    """Returns the face numbers of a corner as forms."""
    first, second = FACE_AXES[face]
    return (corner_form(corner, first), corner_form(corner, second))


def form_sum(one, other):
    """Returns the sum of two forms."""
    return tuple([first + second for first, second in zip(one, other)])


def form_back(form):
    """Returns the negated form."""
    return tuple([-number for number in form])


def turned_point(point, turn):
    """Returns a point of forms turned so many times to the left."""
    first, second = point
    if turn == 1:
        return (form_back(second), first)
    if turn == 2:
        return (form_back(first), form_back(second))
    if turn == 3:
        return (second, form_back(first))
    return (first, second)


def laid_point(placing, point):
    """Returns where a point of a face lies in the plane."""
    turned = turned_point(point, placing[0])
    return (form_sum(placing[1][0], turned[0]), form_sum(placing[1][1], turned[1]))


def gate_turn(face, beside):
    """Returns how often the face beside is turned to the left as it is laid beside a face that is not turned."""
    # Outwards over the edge is one of 0 to 3 quarter turns from the first axis; so is inwards on the face beside.
    outwards = (0 if beside // 2 == FACE_AXES[face][0] else 1) + (0 if beside % 2 == 1 else 2)
    inwards = (0 if face // 2 == FACE_AXES[beside][0] else 1) + (2 if face % 2 == 1 else 0)
    return (outwards - inwards) % 4


def next_placing(placing, face, beside):
    """Returns the placing of the face beside a face that is laid."""
    corner = edge_ends(face, beside)[0]
    turn = (placing[0] + gate_turn(face, beside)) % 4
    met = laid_point(placing, corner_point(face, corner))
    first, second = turned_point(corner_point(beside, corner), turn)
    return (turn, (form_sum(met[0], form_back(first)), form_sum(met[1], form_back(second))))


def row_gates(row):
    """Returns the couples of a face and the next one, read round."""
    return list(zip(row, [*row[1:], row[0]]))


def unfold_row(row):
    """Returns the row of faces laid flat."""
    row = check_facerow(row)
    placings = [(0, NOWHERE)]
    gates = []
    for face, beside in row_gates(row):
        right, left = edge_ends(face, beside)
        placing = placings[-1]
        gates.append((laid_point(placing, corner_point(face, right)), laid_point(placing, corner_point(face, left))))
        placings.append(next_placing(placing, face, beside))
    return Unfolded(row, tuple(placings), tuple(gates))


def gate_corners(row):
    """Returns for each gate the numbers of the corners at its right and left end."""
    return tuple([edge_ends(face, beside) for face, beside in row_gates(check_facerow(row))])


def form_at(box, form):
    """Returns the whole number that a form means at a box."""
    return sum([number * side for number, side in zip(form, box.sides)])


def point_at(box, point):
    """Returns the two whole numbers that a point of forms means at a box."""
    return (form_at(box, point[0]), form_at(box, point[1]))


def gates_at(box, row):
    """Returns the gates of a row with the numbers that they have at a box."""
    return laid_gates(box, unfold_row(row))


def laid_gates(box, unfolded):
    """Returns the gates of an unfolded row with the numbers that they have at a box."""
    return tuple([(point_at(box, right), point_at(box, left)) for right, left in unfolded.gates])


def shift_at(box, row):
    """Returns the shift of a row with the numbers that it has at a box."""
    return point_at(box, unfold_row(row).shift)


def turned_ratios(first, second, turn):
    """Returns a couple of ratios turned so many times to the left."""
    return (
        (first, second), (negative(second), first), (negative(first), negative(second)), (second, negative(first)),
    )[turn]


def placed_at(box, row, index):
    """Returns the face at the index, its turn, and its origin as two ratios."""
    unfolded = unfold_row(row)
    many = len(unfolded.row)
    check_index(index, many)
    turn, origin = unfolded.placings[index]
    first, second = point_at(box, origin)
    return (unfolded.row[index % many], turn, (first, 1), (second, 1))


def flat_place(box, row, index, place):
    """Returns the point of the plane at which a place of the face at the index lies."""
    face, turn, first, second = placed_at(box, row, index)
    fixed = check_place(box, place)
    if face not in faces_holding(box, fixed):
        raise BadPlace(place)
    one, other = framed(face, fixed)
    one, other = turned_ratios(one, other, turn)
    return (plus(first, one), plus(second, other))


def solid_place(box, row, index, point):
    """Returns the place of the face at the index that lies at a point of the plane."""
    face, turn, first, second = placed_at(box, row, index)
    if not is_sequence(point, 2, 2) or not is_ratio(point[0]) or not is_ratio(point[1]):
        raise BadPoint(point)
    one, other = turned_ratios(minus(point[0], first), minus(point[1], second), (4 - turn) % 4)
    place = [(end_of_face(box, face), 1)] * 3
    for axis, entry in zip(FACE_AXES[face], (one, other)):
        if not 0 <= entry[0] <= box.sides[axis] * entry[1]:
            raise BadPoint(point)
        place[axis] = entry
    return tuple(place)
