"""Rays followed from cap to cap at a height, by the whole numbers of rims.py, and how often they cross themselves.

A ray comes onto a cap at (cap, gait, number). Nothing here checks what it is passed.
"""

from tautparcel.ratios import lowest
from tautparcel.rims import (
    CAP_FACES, GAITS, SIDE_FACES, box_corner, number_of_spot, over_belt, over_cap, rim_corner, rim_index, spot_of,
)


class Leg:
    """The way of a ray over a cap: from a number to a number, its length told times p * q and the scale."""
    def __init__(self, cap, gait, number, to_gait, to_number, length):
        self.cap = cap
        self.gait = gait
        self.number = number
        self.to_gait = to_gait
        self.to_number = to_number
        self.length = length


class Trail:
    """What is known of a ray that was followed, with its numbers over the scale.

    `belts` are the numbers of its passes of the belt by "p" and by "q", `rest` is its length on the caps. `corner`
    and `last` are the corner at which it ends and the last face, or None if it came back to its beginning.
    """
    def __init__(self, rim, scale, legs, belts, corner, last):
        self.rim = rim
        self.scale = scale
        self.legs = legs
        self.belts = belts
        self.corner = corner
        self.last = last
        square = rim.slope[0] * rim.slope[1]
        self.rest = lowest(sum([leg.length for leg in legs]), square * scale)


def trail_of(rim, height, start, scale):
    """Follows a ray that comes onto a cap, until it comes back or meets a corner."""
    cap, gait, number = start
    legs = []
    belts = [0, 0]
    while True:
        to_gait, to_number, length = over_cap(rim, cap, gait, number, scale)
        legs.append(Leg(cap, gait, number, to_gait, to_number, length))
        corner = rim_corner(rim, to_gait, to_number, scale)
        if corner is not None:
            return Trail(rim, scale, legs, tuple(belts), box_corner(cap, corner), CAP_FACES[cap])
        belts[to_gait] += 1
        number = over_belt(rim, height, cap, to_gait, to_number, scale)
        cap, gait = 1 - cap, to_gait
        corner = rim_corner(rim, gait, number, scale)
        if corner is not None:
            return Trail(rim, scale, legs, tuple(belts), box_corner(cap, corner), face_before(cap, gait, corner))
        if (cap, gait, number) == start:
            return Trail(rim, scale, legs, tuple(belts), None, None)


def face_before(cap, gait, corner):
    """Returns the face of the belt over which a ray comes by a gait to a corner of a cap."""
    # Onto the top "p" comes forwards and "q" backwards, onto the bottom it is the other way round.
    return SIDE_FACES[corner - 1] if cap == gait else SIDE_FACES[corner]


def gait_into(cap, corner, face):
    """Returns the gait by which a ray goes from a corner of a cap into a face of the belt."""
    # Down from the top "q" goes forwards and "p" backwards, up from the bottom it is the other way round.
    return 1 - cap if face == SIDE_FACES[corner] else cap


def trail_from_corner(rim, height, corner, face):
    """Follows the ray of a corner way from a corner of the box into a face."""
    cap = 1 - corner % 2
    index = rim_index(corner)
    if face == CAP_FACES[cap]:
        # Seen from the side of the rim that begins at the corner, this is the gait that leads forwards.
        gait = cap
        return trail_of(rim, height, (cap, gait, rim.weights[gait] * rim.corners[index]), 1)
    gait = gait_into(cap, index, face)
    number = over_belt(rim, height, cap, gait, rim.weights[gait] * rim.corners[index], 1)
    belts = (1 - gait, gait)
    met = rim_corner(rim, gait, number, 1)
    if met is not None:
        return Trail(rim, 1, [], belts, box_corner(1 - cap, met), face_before(1 - cap, gait, met))
    further = trail_of(rim, height, (1 - cap, gait, number), 1)
    belts = tuple([one + other for one, other in zip(belts, further.belts)])
    return Trail(rim, 1, further.legs, belts, further.corner, further.last)


def trail_at_mark(rim, height, mark):
    """Follows the ray that comes up onto the top at a mark."""
    gait = GAITS.index(mark[1])
    return trail_of(rim, height, (0, gait, number_of_spot(rim, gait, mark[0])), mark[0][1])


def legs_on(trail, cap):
    """Returns the legs of a trail on a cap, in their order."""
    return [leg for leg in trail.legs if leg.cap == cap]


def leg_spots(trail, leg):
    """Returns the spots at which a leg begins and ends."""
    start = spot_of(trail.rim, leg.gait, leg.number, trail.scale)
    return (start, spot_of(trail.rim, leg.to_gait, leg.to_number, trail.scale))


def length_with(slope, rest, belts, height):
    """Returns the length that a rest and so many passes of the belt by "p" and by "q" tell at a height, a ratio."""
    first, second = slope
    whole = rest[1] * first * second
    over_belts = height * (belts[0] * first + belts[1] * second)
    return lowest(rest[0] * first * second + over_belts * rest[1], whole)


def form_at_height(slope, form, height):
    """Returns the length that a form tells at a height, a ratio."""
    return length_with(slope, form.rest, (form.by_p, form.by_q), height)


def crossings_on(trail, cap):
    """Returns how often the legs of a closed trail cross one another inside a cap."""
    slope = trail.rim.slope
    chords = []
    for leg in legs_on(trail, cap):
        ends = (leg.number * slope[leg.gait], leg.to_number * slope[leg.to_gait])
        chords.append((min(ends), max(ends)))
    many = 0
    for low, high in chords:
        # Two lines cross inside if their ends take turns along the rim.
        many += len([one for one, other in chords if low < one < high < other])
    return many


def crossings_over_belt(trail, height):
    """Returns at how many places of the belt, its rims too, a closed trail crosses itself at a height."""
    rim = trail.rim
    by_gait = ([], [])
    for leg in legs_on(trail, 0):
        by_gait[leg.gait].append(leg.number * rim.slope[leg.gait])
        by_gait[leg.to_gait].append(leg.to_number * rim.slope[leg.to_gait])
    # From top to bottom a pass by "p" and one by "q" come so far apart along the rim, and once round is so long.
    apart = height * (rim.slope[0] * rim.slope[0] + rim.slope[1] * rim.slope[1]) * trail.scale
    once = rim.days * trail.scale
    broken = apart % once
    many = len(by_gait[0]) * len(by_gait[1]) * (apart // once)
    for spot in by_gait[0]:
        many += len([other for other in by_gait[1] if (spot - other) % once <= broken])
    return many


def self_crossings(trail, height):
    """Returns at how many places a closed trail crosses itself at a height."""
    return crossings_on(trail, 0) + crossings_on(trail, 1) + crossings_over_belt(trail, height)
