"""What the tests of parts 9 to 11 share: spots, chords and rings told by Fractions and by vectors in space."""

from fractions import Fraction

from helping import number, ratio, traced
from tautparcel.belts import days_of

BASES = [(1, 1), (2, 1), (1, 2), (3, 2), (2, 5), (4, 4)]
STEPS = [(1, 0), (0, 1), (-1, 0), (0, -1)]
FACES = {(1, 0): 2, (0, 1): 1, (-1, 0): 3, (0, -1): 0}
# The slopes whose calendars are short enough for the base.
SLOPES = [(1, 1), (1, 2), (2, 1), (3, 1), (1, 3), (2, 3), (3, 2), (1, 4), (5, 1)]


def bases_and_slopes(most):
    """All couples of a base and a slope above with at most so many days."""
    return [(base, slope) for base in BASES for slope in SLOPES if days_of(base, slope) <= most]


def rim_of(base):
    return 2 * (base[0] + base[1])


def corner_spots(base):
    return [0, base[0], base[0] + base[1], 2 * base[0] + base[1]]


def corner_number(where, sides):
    return sum(weight for weight, value, side in zip((4, 2, 1), where, sides) if value == side)


def side_at(base, spot):
    """The number of the side of the rim on which a spot that is no corner lies."""
    return sum(1 for corner in corner_spots(base) if corner < spot) - 1


def xy_of(base, spot):
    """The place of a spot, by going along the rim."""
    where, left = (Fraction(0), Fraction(0)), Fraction(spot)
    for step, length in zip(STEPS, (base[0], base[1], base[0], base[1])):
        gone = min(left, length)
        where = (where[0] + step[0] * gone, where[1] + step[1] * gone)
        left -= gone
    return where


def spots_of(base, where):
    """The spot of a place of the rim, found side by side."""
    begin, corner = 0, (0, 0)
    for step, length in zip(STEPS, (base[0], base[1], base[0], base[1])):
        gone = (where[0] - corner[0]) * step[0] + (where[1] - corner[1]) * step[1]
        if (corner[0] + step[0] * gone, corner[1] + step[1] * gone) == tuple(where) and 0 <= gone < length:
            return begin + gone
        begin, corner = begin + length, (corner[0] + step[0] * length, corner[1] + step[1] * length)
    return None


def inward(base, slope, cap, spot, gait):
    """The direction over a cap from a mark, seen from above."""
    p, q = slope
    steps = {("top", "p"): (p, q), ("top", "q"): (-q, p), ("bottom", "p"): (-p, q), ("bottom", "q"): (q, p)}
    along, inwards = steps[cap, gait]
    (f0, f1), (n0, n1) = STEPS[side_at(base, spot)], STEPS[(side_at(base, spot) + 1) % 4]
    return (along * f0 + inwards * n0, along * f1 + inwards * n1)


def gait_at(base, slope, cap, spot, direction):
    """The gait of the mark from which a direction leads inwards."""
    found = [gait for gait in "pq" if inward(base, slope, cap, spot, gait) == tuple(direction)]
    return found[0]


def line_over(base, slope, cap, spot, gait):
    """Over a cap from a mark: (place, length, spot or None at a corner, gait)."""
    where = xy_of(base, spot)
    direction = inward(base, slope, cap, spot, gait)
    times = [((side if step > 0 else 0) - value) / step for value, step, side in zip(where, direction, base)]
    length = min(times)
    end = tuple(value + length * step for value, step in zip(where, direction))
    if all(value in (0, side) for value, side in zip(end, base)):
        return (end, length, None, None)
    to_spot = spots_of(base, end)
    return (end, length, to_spot, gait_at(base, slope, cap, to_spot, (-direction[0], -direction[1])))


class Traced:
    """A ray from a mark of the top on, traced in space: its chords as couples of marks, its end and its length."""
    def __init__(self, base, slope, height, spot, gait):
        sides = (*base, height)
        x, y = xy_of(base, spot)
        step = inward(base, slope, "top", spot, gait)
        most = 4 * sum(slope) * sum(sides) + 4
        passes = traced(sides, (x, y, Fraction(height)), 5, (*step, 0), most)
        again = [index for index in range(1, len(passes)) if passes[index][:3] == passes[0][:3]]
        self.passes = passes[:again[0]] if again else passes
        end = self.passes[-1][3]
        self.corner = None if again else corner_number(end, sides)
        self.length = sum(taken[4] for taken in self.passes)
        self.rest = sum(taken[4] for taken in self.passes if taken[0] in (4, 5))
        self.tops = [self.chord(base, slope, "top", taken) for taken in self.passes if taken[0] == 5]
        self.bottoms = [self.chord(base, slope, "bottom", taken) for taken in self.passes if taken[0] == 4]

    def chord(self, base, slope, cap, taken):
        ends = []
        for where, sign in ((taken[2], 1), (taken[3], -1)):
            if all(value in (0, side) for value, side in zip(where, base)):
                ends.append(None)
            else:
                spot = spots_of(base, where[:2])
                ends.append((spot, gait_at(base, slope, cap, spot, (sign * taken[1][0], sign * taken[1][1]))))
        return tuple(ends)


def told_mark(mark):
    """A mark with its spot as a Fraction."""
    return (number(mark[0]), mark[1])


def spots_between(base, bottom):
    """All spots with a bottom that are no corners."""
    found = [Fraction(top, bottom) for top in range(rim_of(base) * bottom)]
    return [spot for spot in found if spot not in corner_spots(base)]


def mark_of(spot, gait):
    return (ratio(spot), gait)


def face_of_side(index):
    return FACES[STEPS[index]]
