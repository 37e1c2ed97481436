"""Rays followed by whole numbers: by the side on which they lie, instead of place by place.

Sideways of a line is constant on a face and changes by a whole number over an edge. So a ray is followed
by its side alone, told as a whole number over one bottom, the `scale`; places are made only where they are
asked for. Nothing here checks what it is passed.
"""

from tautparcel.boxes import FACE_AXES, corner_numbers, edge_ends
from tautparcel.places import end_of_face, numbers_over
from tautparcel.ratios import common_bottom, lowest
from tautparcel.slopes import ahead_number, side_number, turned_over


class Gate:
    """An edge over which a direction leaves a face.

    Over it the side of a line grows by `side_step`, and a place of the edge lies by `ahead_step` less far ahead.
    `right` and `left` are the sides of the two ends of the edge, `corners` the numbers of these.
    """
    def __init__(self, face, direction, steps, sides, corners):
        self.face = face
        self.direction = direction
        self.side_step = steps[0]
        self.ahead_step = steps[1]
        self.right = sides[0]
        self.left = sides[1]
        self.corners = corners


class Course:
    """What is known of a ray that was followed.

    `steps` holds (face, direction, side, gone) for each pass, and `gates` the gate behind each pass. `gone`, also
    that of a step, is the sum of `ahead_step` of the gates before. `corner` is the corner at which the ray ends, or
    None; `closed` tells whether it came back to its beginning.
    """
    def __init__(self, steps, gates, gone, corner, closed):
        self.steps = steps
        self.gates = gates
        self.gone = gone
        self.corner = corner
        self.closed = closed


def square_of(direction):
    """Returns the square of the length of a direction."""
    return ahead_number(direction, direction)


def gate_over(box, face, beside, direction):
    """Returns the gate over which a direction goes to the face beside."""
    turned = turned_over(face, beside, direction)
    corners = edge_ends(face, beside)
    places = [corner_numbers(box, corner) for corner in corners]
    sides = [side_number(face, direction, place) for place in places]
    side_step = side_number(beside, turned, places[0]) - sides[0]
    ahead_step = ahead_number(direction, places[0]) - ahead_number(turned, places[0])
    return Gate(beside, turned, (side_step, ahead_step), sides, corners)


def gates_of(box, face, direction):
    """Returns the one or two gates over which a direction leaves a face, the right one first."""
    gates = []
    for axis in FACE_AXES[face]:
        if direction[axis] != 0:
            beside = 2 * axis + (1 if direction[axis] > 0 else 0)
            gates.append(gate_over(box, face, beside, direction))
    if len(gates) == 2 and gates[0].right > gates[1].right:
        return (gates[1], gates[0])
    return tuple(gates)


def gate_of_side(gates, side, scale):
    """Returns the gate through which a line goes, or None if it meets the corner between two gates."""
    if len(gates) == 1:
        return gates[0]
    split = gates[0].left * scale
    if side == split:
        return None
    return gates[0] if side < split else gates[1]


def course_of(box, face, direction, side, scale, most):
    """Follows a ray until it comes back, or meets a corner, or has gone so many passes."""
    known = {}
    steps = []
    gates = []
    gone = 0
    at = (face, direction, side)
    while len(steps) < most:
        steps.append((at[0], at[1], at[2], gone))
        where = at[:2]
        if where not in known:
            known[where] = gates_of(box, at[0], at[1])
        gate = gate_of_side(known[where], at[2], scale)
        if gate is None:
            return Course(steps, gates, gone, known[where][0].corners[1], False)
        gates.append(gate)
        gone += gate.ahead_step
        at = (gate.face, gate.direction, at[2] + gate.side_step * scale)
        if at == (face, direction, side):
            return Course(steps, gates, gone, None, True)
    return Course(steps, gates, gone, None, False)


def place_over(box, face, beside, direction, side, scale):
    """Returns the place at which the line with the side crosses the edge between two faces."""
    first, second = FACE_AXES[face]
    own, met = face // 2, beside // 2
    numbers = [(0, 1), (0, 1), (0, 1)]
    numbers[own] = (end_of_face(box, face), 1)
    end = end_of_face(box, beside)
    numbers[met] = (end, 1)
    if met == first:
        numbers[second] = lowest(side + direction[second] * end * scale, direction[first] * scale)
    else:
        numbers[first] = lowest(direction[first] * end * scale - side, direction[second] * scale)
    return tuple(numbers)


def starts_of(box, course, scale):
    """Returns the places at which the passes of a closed course begin."""
    ends = []
    for step, gate in zip(course.steps, course.gates):
        ends.append(place_over(box, step[0], gate.face, step[1], step[2], scale))
    return tuple([*ends[-1:], *ends[:-1]])


def closed_length(course):
    """Returns the whole length of a closed course."""
    return course.gone // square_of(course.steps[0][1])


def corner_length(box, course, place):
    """Returns the length of a course up to its corner, from a place of its first face."""
    bottom = common_bottom(place)
    _, direction, _, gone = course.steps[-1]
    finish = ahead_number(direction, corner_numbers(box, course.corner)) + gone
    start = ahead_number(course.steps[0][1], numbers_over(place, bottom))
    return lowest(finish * bottom - start, square_of(direction) * bottom)


def slack_of(course, scale):
    """Returns how far the sides of a closed course may fall and grow without meeting a corner, over the scale."""
    falls = []
    rises = []
    for step, gate in zip(course.steps, course.gates):
        falls.append(step[2] - gate.right * scale)
        rises.append(gate.left * scale - step[2])
    return (min(falls), min(rises))
