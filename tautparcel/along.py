"""Turned, mirrored and scaled boxes, and what becomes of things on them."""

from tautparcel.boxes import LONGEST_SIDE, Box, check_corner, check_face, corner_bit
from tautparcel.errors import BadFace, BadHow, BadSize
from tautparcel.places import check_place
from tautparcel.ratios import is_sequence, is_whole, minus, times
from tautparcel.slopes import check_direction, check_slope, mirrored_slope

ORDERS = ((0, 1, 2), (0, 2, 1), (1, 0, 2), (1, 2, 0), (2, 0, 1), (2, 1, 0))
EVEN_ORDERS = ((0, 1, 2), (1, 2, 0), (2, 0, 1))
SIGNS = (-1, 1)


def check_how(how):
    """Returns a how as a tuple of tuples, or raises BadHow."""
    if not is_sequence(how, 2, 2):
        raise BadHow(how)
    order, signs = how
    if not is_sequence(order, 3, 3) or not is_sequence(signs, 3, 3):
        raise BadHow(how)
    if [number for number in [*order, *signs] if not is_whole(number, -1, 2)]:
        raise BadHow(how)
    if tuple(order) not in ORDERS or [sign for sign in signs if sign not in SIGNS]:
        raise BadHow(how)
    return (tuple(order), tuple(signs))


def all_hows():
    """Returns all 48 hows, ascending."""
    signs = [(first, second, third) for first in SIGNS for second in SIGNS for third in SIGNS]
    return tuple([(order, triple) for order in ORDERS for triple in signs])


def keeps_sense(how):
    """Tells whether the how is a turning, without a mirror."""
    order, signs = check_how(how)
    return (order in EVEN_ORDERS) == (signs[0] * signs[1] * signs[2] == 1)


def back_how(how):
    """Returns the how that undoes a how."""
    order, signs = check_how(how)
    places = [order.index(axis) for axis in range(3)]
    return (tuple(places), tuple([signs[place] for place in places]))


def joined_how(how, further):
    """Returns the how that does first `how`, then `further`."""
    order, signs = check_how(how)
    next_order, next_signs = check_how(further)
    joined = tuple([order[axis] for axis in next_order])
    return (joined, tuple([sign * signs[axis] for axis, sign in zip(next_order, next_signs)]))


def led_box(box, how):
    """Returns what becomes of a box."""
    order = check_how(how)[0]
    return Box(tuple([box.sides[axis] for axis in order]))


def led_place(box, place, how):
    """Returns what becomes of a place of the box."""
    place = check_place(box, place)
    order, signs = check_how(how)
    led = []
    for axis, sign in zip(order, signs):
        led.append(place[axis] if sign == 1 else minus((box.sides[axis], 1), place[axis]))
    return tuple(led)


def led_face(face, how):
    """Returns what becomes of a face."""
    check_face(face)
    order, signs = check_how(how)
    axis = order.index(face // 2)
    return 2 * axis + led_end(face % 2, signs[axis])


def led_end(end, sign):
    """Returns which end of an axis, 0 or 1, an end becomes."""
    return end if sign == 1 else 1 - end


def led_corner(corner, how):
    """Returns what becomes of the number of a corner."""
    check_corner(corner)
    order, signs = check_how(how)
    first, second, third = [led_end(corner_bit(corner, axis), sign) for axis, sign in zip(order, signs)]
    return 4 * first + 2 * second + third


def led_direction(face, direction, how):
    """Returns what becomes of a direction on a face."""
    direction = check_direction(face, direction)
    order, signs = check_how(how)
    return tuple([sign * direction[axis] for axis, sign in zip(order, signs)])


def led_slope(slope, how):
    """Returns what becomes of a slope: a mirror exchanges left and right."""
    slope = check_slope(slope, True)
    return slope if keeps_sense(how) else mirrored_slope(slope)


def led_row(row, how):
    """Returns what becomes of a sequence of faces."""
    if not isinstance(row, (list, tuple)):
        raise BadFace(row)
    for face in row:
        check_face(face)
    check_how(how)
    return tuple([led_face(face, how) for face in row])


def scaled_box(box, size):
    """Returns the box with all sides so many times as long."""
    check_size(size)
    return Box(tuple([side * size for side in box.sides]))


def check_size(size):
    """Returns how many times as long sides become, or raises BadSize."""
    if not is_whole(size, 1, LONGEST_SIDE):
        raise BadSize(size)
    return size


def scaled_place(box, place, size):
    """Returns the place of the box with all sides so many times as long."""
    place = check_place(box, place)
    check_size(size)
    return tuple([times(entry, (size, 1)) for entry in place])
