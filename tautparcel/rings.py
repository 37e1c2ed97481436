"""Rings: the chords that a ribbon has on top and bottom, and its length as a form in the height."""

from tautparcel.belts import (
    MOST_DAYS, Chord, check_base, check_day, check_days, check_height, check_mark, height_of_day,
)
from tautparcel.ratios import lowest
from tautparcel.rims import CAPS, GAITS, Rim
from tautparcel.slopes import check_slope
from tautparcel.trails import form_at_height, leg_spots, legs_on, trail_at_mark


class Ring:
    """The chords of a ribbon, and the form of its length."""
    def __init__(self, tops, bottoms, rest, by_p, by_q):
        self.tops = tops
        self.bottoms = bottoms
        self.rest = rest
        self.by_p = by_p
        self.by_q = by_q

    def __eq__(self, other):
        return (
            isinstance(other, Ring) and self.tops == other.tops and self.bottoms == other.bottoms
            and self.rest == other.rest and self.by_p == other.by_p and self.by_q == other.by_q
        )


class RingEnds:
    """The corner at which a ray ends, and the form of its length to there."""
    def __init__(self, corner, rest, by_p, by_q):
        self.corner = corner
        self.rest = rest
        self.by_p = by_p
        self.by_q = by_q

    def __eq__(self, other):
        return (
            isinstance(other, RingEnds) and self.corner == other.corner and self.rest == other.rest
            and self.by_p == other.by_p and self.by_q == other.by_q
        )


def form_length(slope, form, height):
    """Returns the length that a form tells at a height, as a ratio."""
    slope = check_slope(slope)
    return form_at_height(slope, form, check_height(height))


def ring_of(base, slope, day, mark):
    """Returns the Ring of the ray that comes up onto the top at a mark, or its RingEnds."""
    base = check_base(base)
    slope = check_slope(slope)
    check_day(base, slope, day)
    mark = check_mark(base, mark)
    rim = Rim(base, slope)
    check_days(rim.days, MOST_DAYS)
    trail = trail_at_mark(rim, height_of_day(rim.days, day), mark)
    by_p, by_q = trail.belts
    if trail.corner is not None:
        return RingEnds(trail.corner, trail.rest, by_p, by_q)
    tops, bottoms = [chords_of(trail, cap) for cap in range(2)]
    return Ring(tops, bottoms, trail.rest, by_p, by_q)


def chords_of(trail, cap):
    """Returns the chords of a trail on a cap, in their order."""
    scale = trail.scale * trail.rim.slope[0] * trail.rim.slope[1]
    chords = []
    for leg in legs_on(trail, cap):
        start, finish = leg_spots(trail, leg)
        marks = ((start, GAITS[leg.gait]), (finish, GAITS[leg.to_gait]))
        chords.append(Chord(CAPS[cap], marks[0], marks[1], lowest(leg.length, scale)))
    return tuple(chords)
