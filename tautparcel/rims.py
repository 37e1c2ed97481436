"""The caps of a box of any height, and how rays go over them and over the belt, by whole numbers.

A cap is told by its number, 0 for the top and 1 for the bottom, a gait by 0 for "p" and 1 for "q". A spot over which
a ray goes by a gait is told as a whole number: the spot times the weight of the gait times a scale. With these
weights a number goes over a cap to some total less the number, and over the belt it changes by a whole number.
Nothing here checks what it is passed.
"""

from tautparcel.ratios import lowest

CAPS = ("top", "bottom")
CAP_FACES = (5, 4)
GAITS = ("p", "q")
# The sides of the rim from the spot 0 on: their faces, and the steps forwards along them, seen from above.
SIDE_FACES = (2, 1, 3, 0)
STEPS = ((1, 0), (0, 1), (-1, 0), (0, -1))
BOTTOM_CORNERS = (0, 4, 6, 2)


class Leap:
    """Lines over a cap from one side of the rim to another: numbers from low to high go to the total less them.

    They leave by the gait `gait`. Their length times p * q is `begin` and `rate` times the number.
    """
    def __init__(self, low, high, gait, total, begin, rate):
        self.low = low
        self.high = high
        self.gait = gait
        self.total = total
        self.begin = begin
        self.rate = rate


class Rim:
    """The rim of a base, told for the gaits of a slope.

    `corners` are the spots of its corners, `weights` those of both gaits, and `leaps` the leaps of each cap and each
    gait, ascending. `length` is the length of the rim, `days` the number of days.
    """
    def __init__(self, base, slope):
        spots = side_spots(base)
        self.base = base
        self.slope = slope
        self.length = spots[4]
        self.corners = spots[:4]
        self.weights = (slope[1], slope[0])
        self.days = spots[4] * slope[0] * slope[1]
        self.leaps = tuple([cap_leaps(base, slope, cap) for cap in range(2)])


def side_spots(base):
    """Returns the spots at which the sides of the rim begin, and where the last one ends."""
    first, second = base
    return (0, first, first + second, 2 * first + second, 2 * first + 2 * second)


def side_corners(base):
    """Returns the couples (x, y) at which the sides of the rim begin."""
    first, second = base
    return ((0, 0), (first, 0), (first, second), (0, second))


def cross(one, other):
    """Returns how far a couple of whole numbers is turned to the left from another one."""
    return one[0] * other[1] - one[1] * other[0]


def step_along(slope, cap, gait):
    """Returns how far a gait leads forwards along the rim while it leads inwards over a cap."""
    return slope[gait] if cap == gait else -slope[gait]


def inward_step(slope, cap, gait, side):
    """Returns the direction in which a gait leads over a cap from a side of the rim, seen from above."""
    along = step_along(slope, cap, gait)
    inward = slope[1 - gait]
    forwards, inwards = STEPS[side], STEPS[(side + 1) % 4]
    return tuple([along * one + inward * other for one, other in zip(forwards, inwards)])


def side_constant(base, slope, cap, gait, side):
    """Returns the sum of the number of any spot of a side and of how far to the left its line over a cap lies."""
    direction = inward_step(slope, cap, gait, side)
    return cross(direction, side_corners(base)[side]) + slope[1 - gait] * side_spots(base)[side]


def cap_leaps(base, slope, cap):
    """Returns the leaps over a cap for both gaits."""
    found = []
    for gait in range(2):
        leaps = [leap for side in range(4) for leap in side_leaps(base, slope, cap, gait, side)]
        found.append(tuple([leap for leap in leaps if leap.low < leap.high]))
    return tuple(found)


def side_leaps(base, slope, cap, gait, side):
    """Returns the two leaps from a side of the rim, ascending; one of them may hold no numbers."""
    low, high = [slope[1 - gait] * spot for spot in side_spots(base)[side:side + 2]]
    forwards = step_along(slope, cap, gait) > 0
    near = (side + 1) % 4 if forwards else (side + 3) % 4
    far = (side + 2) % 4
    # Lines part at the corner between the side to which they are led and the opposite one.
    apart = side_corners(base)[far if forwards else near]
    own = side_constant(base, slope, cap, gait, side)
    split = max(low, min(high, own - cross(inward_step(slope, cap, gait, side), apart)))
    far_total = own + side_constant(base, slope, cap, gait, far)
    near_total = own + side_constant(base, slope, cap, 1 - gait, near)
    whole = base[1 - side % 2] * slope[gait]
    if forwards:
        return [Leap(low, split, gait, far_total, whole, 0), Leap(split, high, 1 - gait, near_total, high, -1)]
    return [Leap(low, split, 1 - gait, near_total, -low, 1), Leap(split, high, gait, far_total, whole, 0)]


def over_cap(rim, cap, gait, number, scale):
    """Returns the gait and the number to which a line goes over a cap, and its length times p * q * scale."""
    for leap in rim.leaps[cap][gait]:
        if number < leap.high * scale:
            return (leap.gait, leap.total * scale - number, leap.begin * scale + leap.rate * number)
    return None


def over_belt(rim, height, cap, gait, number, scale):
    """Returns the number at which a ray that leaves a cap by a gait over a number comes to the other cap."""
    fallen = height * rim.slope[gait] * scale
    # Downwards the gait "p" goes backwards and the gait "q" forwards, upwards it is the other way round.
    gone = number - fallen if cap == gait else number + fallen
    return gone % (rim.length * rim.weights[gait] * scale)


def rim_corner(rim, gait, number, scale):
    """Returns the index of the corner of the rim at a number, or None."""
    unit = rim.weights[gait] * scale
    if number % unit != 0:
        return None
    spot = number // unit % rim.length
    return rim.corners.index(spot) if spot in rim.corners else None


def box_corner(cap, index):
    """Returns the number of the corner of the box at a corner of the rim."""
    return BOTTOM_CORNERS[index] + 1 - cap


def rim_index(corner):
    """Returns the index of the corner of the rim at which a corner of the box lies."""
    return BOTTOM_CORNERS.index(corner - corner % 2)


def spot_of(rim, gait, number, scale):
    """Returns the spot that a number tells."""
    return lowest(number, rim.weights[gait] * scale)


def number_of_spot(rim, gait, spot):
    """Returns the number of a spot, with the bottom of the spot as scale."""
    return rim.weights[gait] * spot[0]
