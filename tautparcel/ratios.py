"""Whole numbers and ratios: couples (top, bottom) in lowest terms."""

from math import gcd, lcm

from tautparcel.errors import BadRatio

ZERO = (0, 1)
ONE = (1, 1)
HALF = (1, 2)


def is_whole(thing, low=None, high=None):
    """Tells whether the thing is a whole number from low to high."""
    if isinstance(thing, bool) or not isinstance(thing, int):
        return False
    if low is not None and thing < low:
        return False
    return high is None or thing <= high


def is_sequence(thing, low, high):
    """Tells whether the thing is a list or a tuple of so many entries."""
    return isinstance(thing, (list, tuple)) and low <= len(thing) <= high


def is_ratio(thing):
    """Tells whether the thing is a ratio, as a list or a tuple."""
    if not is_sequence(thing, 2, 2):
        return False
    top, bottom = thing
    return is_whole(top) and is_whole(bottom, 1) and gcd(top, bottom) == 1


def make_ratio(top, bottom=1):
    """Returns top divided by bottom; raises BadRatio."""
    if not is_whole(top):
        raise BadRatio("top")
    if not is_whole(bottom) or bottom == 0:
        raise BadRatio("bottom")
    return lowest(top, bottom)


def lowest(top, bottom):
    """Returns top divided by bottom, which is not 0, and checks nothing."""
    common = gcd(top, bottom)
    if bottom < 0:
        common = -common
    return (top // common, bottom // common)


def plus(one, other):
    """Returns the sum of two ratios."""
    return lowest(one[0] * other[1] + other[0] * one[1], one[1] * other[1])


def minus(one, other):
    """Returns the first ratio less the second one."""
    return lowest(one[0] * other[1] - other[0] * one[1], one[1] * other[1])


def times(one, other):
    """Returns the product of two ratios."""
    return lowest(one[0] * other[0], one[1] * other[1])


def over(one, other):
    """Returns the first ratio divided by the second one; raises BadRatio."""
    if other[0] == 0:
        raise BadRatio("zero")
    return lowest(one[0] * other[1], one[1] * other[0])


def negative(one):
    """Returns the ratio with the other sign."""
    return (-one[0], one[1])


def compare(one, other):
    """Returns -1, 0 or 1 as the first ratio is less, equal or greater."""
    left = one[0] * other[1]
    right = other[0] * one[1]
    if left == right:
        return 0
    return -1 if left < right else 1


def sum_of(ratios):
    """Returns the sum of a sequence of ratios."""
    total = ZERO
    for ratio in ratios:
        total = plus(total, ratio)
    return total


def least_of(ratios):
    """Returns the least of at least one ratio."""
    best = ratios[0]
    for ratio in ratios:
        if compare(ratio, best) < 0:
            best = ratio
    return tuple(best)


def greatest_of(ratios):
    """Returns the greatest of at least one ratio."""
    best = ratios[0]
    for ratio in ratios:
        if compare(ratio, best) > 0:
            best = ratio
    return tuple(best)


def floor_of(one):
    """Returns the greatest whole number that is not above the ratio."""
    return one[0] // one[1]


def broken_of(one):
    """Returns the ratio less its floor."""
    return (one[0] - floor_of(one) * one[1], one[1])


def common_bottom(ratios):
    """Returns the least whole number that all bottoms divide."""
    bottom = 1
    for ratio in ratios:
        bottom = lcm(bottom, ratio[1])
    return bottom


def ratio_text(one):
    """Returns the text of a ratio: "3" or "-1/2"."""
    top, bottom = one
    if bottom == 1:
        return f"{top}"
    return f"{top}/{bottom}"
