"""What the tests share: checks of errors, boxes and slopes, and a ray tracer of its own over Fractions."""

from fractions import Fraction
from math import gcd, isqrt

from tautparcel.boxes import Box

NO_NUMBERS = [True, False, None, "1", 1.0, (1, 1), [], b"1"]
SIDES = [(1, 1, 1), (1, 1, 2), (2, 1, 1), (1, 2, 3), (3, 2, 1), (2, 3, 3), (4, 1, 2), (3, 5, 2), (4, 4, 7)]
BOXES = [Box(sides) for sides in SIDES]
SLOPES = [(1, 1), (1, 2), (2, 1), (3, 1), (2, 3), (3, 2), (5, 4)]
ALL_SLOPES = [(p, q) for p in range(1, 10) for q in range(1, 10) if gcd(p, q) == 1]
AXES = [(2, 1), (1, 2), (0, 2), (2, 0), (1, 0), (0, 1)]


def refused(case, error, told, call, *args):
    """Asserts that the call raises the very error, with the attributes told, in their order."""
    with case.assertRaises(error) as caught:
        result = call(*args)
        if hasattr(result, "__next__"):
            list(result)
    case.assertIs(caught.exception.__class__, error)
    case.assertEqual(list(vars(caught.exception).items()), list(told.items()))


def only_tuples(thing):
    """Tells whether there is no list in a result, however deep."""
    if isinstance(thing, tuple):
        return all(only_tuples(item) for item in thing)
    return not isinstance(thing, list)


def as_lists(thing):
    """The thing with a list for each tuple."""
    if isinstance(thing, (tuple, list)):
        return [as_lists(item) for item in thing]
    return thing


def number(ratio):
    return Fraction(ratio[0], ratio[1])


def ratio(value):
    value = Fraction(value)
    return (value.numerator, value.denominator)


def point(place):
    return tuple(number(entry) for entry in place)


def place(*values):
    return tuple(ratio(value) for value in values)


def vector_out(face):
    vector = [0, 0, 0]
    vector[face // 2] = 1 if face % 2 else -1
    return vector


def faces_with(sides, where):
    found = []
    for axis in range(3):
        if where[axis] == 0:
            found.append(2 * axis)
        if where[axis] == sides[axis]:
            found.append(2 * axis + 1)
    return found


def traced(sides, where, face, direction, most):
    """The passes (face, direction, start, end, length) of a ray, told by vectors in space."""
    found = []
    while len(found) < most:
        ends = []
        for axis in range(3):
            if direction[axis]:
                end = sides[axis] if direction[axis] > 0 else 0
                ends.append((end - where[axis]) / Fraction(direction[axis]))
        length = min(ends)
        end = tuple(value + length * step for value, step in zip(where, direction))
        found.append((face, direction, where, end, length))
        faces = faces_with(sides, end)
        if len(faces) == 3:
            break
        beside = [other for other in faces if other != face][0]
        out, met = vector_out(face), vector_out(beside)
        over = sum(one * other for one, other in zip(direction, met))
        direction = tuple(step - over * m - over * n for step, m, n in zip(direction, met, out))
        where, face = end, beside
    return found


def entrances(box, slope, bottom):
    """Entrances of a slope inside the faces and on the edges, at places with one bottom."""
    from tautparcel.slopes import directions_on
    from tautparcel.errors import BadStart
    from tautparcel.steps import check_entrance
    found = []
    for face in range(6):
        first, second = AXES[face]
        for one in range(0, bottom * box.sides[first] + 1):
            for other in range(0, bottom * box.sides[second] + 1):
                where = [Fraction(box.sides[face // 2] * (face % 2))] * 3
                where[first], where[second] = Fraction(one, bottom), Fraction(other, bottom)
                for direction in directions_on(face, slope):
                    try:
                        found.append(check_entrance(box, place(*where), face, direction))
                    except BadStart:
                        pass
    return found


def check_result(case, kind, words):
    """Asserts that a class keeps the very things that it is given, checks nothing, and is equal by all of them."""
    values = [[index] for index, _ in enumerate(words)]
    made = kind(*values)
    case.assertEqual(list(vars(made)), words)
    for word, value in zip(words, values):
        case.assertIs(getattr(made, word), value)
    case.assertIs(made == kind(*values), True)
    case.assertIs(made != kind(*values), False)
    for index in range(len(words)):
        other = kind(*values[:index], "other", *values[index + 1:])
        case.assertIs(made == other, False)
        case.assertIs(made != other, True)
    for thing in (None, 5, "a", tuple(values), values, Box((1, 1, 1))):
        case.assertIs(made == thing, False)
        case.assertIs(made != thing, True)


def chord_ends(passes):
    """The passes as (face, start, end, moment of the start), by Fractions."""
    found, moment = [], Fraction(0)
    for taken in passes:
        found.append((taken.face, point(taken.start), point(taken.end), moment))
        moment += number(taken.length)
    return found


def chords_met(chord, other):
    """The place where two chords of a face cross, by Fractions, or None; their ends count."""
    if chord[0] != other[0]:
        return None
    first, second = AXES[chord[0]]
    (x0, y0), (x1, y1) = [(end[first], end[second]) for end in chord[1:3]]
    (u0, v0), (u1, v1) = [(end[first], end[second]) for end in other[1:3]]
    turn = (x1 - x0) * (v1 - v0) - (y1 - y0) * (u1 - u0)
    if turn == 0:
        return None
    gone = ((u0 - x0) * (v1 - v0) - (v0 - y0) * (u1 - u0)) / turn
    other_gone = ((u0 - x0) * (y1 - y0) - (v0 - y0) * (x1 - x0)) / turn
    if not 0 <= gone <= 1 or not 0 <= other_gone <= 1:
        return None
    return tuple(one + gone * (end - one) for one, end in zip(chord[1], chord[2]))


def places_met(passes, others=None):
    """All places where passes cross other passes, or one another, ascending, by Fractions."""
    chords = chord_ends(passes)
    if others is None:
        couples = [(chords[one], chords[other]) for one in range(len(chords)) for other in range(one)]
    else:
        couples = [(chord, other) for chord in chords for other in chord_ends(others)]
    found = {chords_met(chord, other) for chord, other in couples}
    return sorted(found - {None})


def moments_by_walking(ribbon, where):
    """The moments at which a ribbon is at a place, by Fractions, found pass by pass."""
    found = set()
    for _, start, end, moment in chord_ends(ribbon.passes):
        axis = [axis for axis in range(3) if start[axis] != end[axis]][0]
        gone = (where[axis] - start[axis]) / (end[axis] - start[axis])
        if 0 <= gone <= 1 and all(one + gone * (far - one) == at for one, far, at in zip(start, end, where)):
            length = sum((far - one) ** 2 for one, far in zip(start, end))
            first, second = ribbon.slope
            # The pass's length t has t * t times the square of the slope as its true square.
            whole = length / (first ** 2 + second ** 2)
            found.add((moment + gone * root(whole)) % ribbon.length)
    return sorted(found)


def root(square):
    value = Fraction(isqrt(square.numerator), isqrt(square.denominator))
    assert value * value == square
    return value
