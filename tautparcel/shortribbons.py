"""Short lanes, and the shortest and the broadest ones of many slopes."""

from tautparcel.cornerways import slopes_up_to
from tautparcel.counts import least_length
from tautparcel.errors import BadMost, BadSteep
from tautparcel.lanes import lanes_of
from tautparcel.ratios import greatest_of, is_whole, lowest
from tautparcel.slopes import BAND, STEEPEST

MOST_SQUARE = 10 ** 6


class Short:
    """A lane with its slope and its true length squared."""
    def __init__(self, square, slope, lane):
        self.square = square
        self.slope = slope
        self.lane = lane

    def __eq__(self, other):
        return (
            isinstance(other, Short) and self.square == other.square and self.slope == other.slope
            and self.lane == other.lane
        )


class Broadest:
    """The greatest true breadth squared, and the lanes that have it."""
    def __init__(self, square, lanes):
        self.square = square
        self.lanes = lanes

    def __eq__(self, other):
        return isinstance(other, Broadest) and self.square == other.square and self.lanes == other.lanes


def slopes_to(steep):
    """Returns all slopes with both numbers up to a bound, ascending."""
    if not is_whole(steep, 1, STEEPEST):
        raise BadSteep(steep)
    return tuple(slopes_up_to(steep))


def square_with(slope, number):
    """Returns the true square of a length or breadth of a slope."""
    return number * number * (slope[0] * slope[0] + slope[1] * slope[1])


def shorts_of(box, slopes):
    """Returns all lanes of slopes as Shorts, by slope, then in the order of lanes_of."""
    return [Short(square_with(slope, lane.length), slope, lane) for slope in slopes for lane in lanes_of(box, slope)]


def short_lanes(box, most, steep):
    """Returns all lanes of the band slope and of slopes up to a bound that are short enough, the shortest first."""
    if not is_whole(most, 0, MOST_SQUARE):
        raise BadMost(most)
    slopes = [slope for slope in slopes_to(steep) if square_with(slope, least_length(box, slope)) <= most]
    shorts = [short for short in shorts_of(box, [BAND, *slopes]) if short.square <= most]
    order = sorted([(short.square, index) for index, short in enumerate(shorts)])
    return tuple([shorts[index] for _, index in order])


def shortest_lanes(box, steep):
    """Returns all lanes of slopes up to a bound, not of bands, that have the least square."""
    shorts = shorts_of(box, slopes_to(steep))
    least = min([short.square for short in shorts])
    return tuple([short for short in shorts if short.square == least])


def broadest_lanes(box, steep):
    """Returns the greatest true breadth squared of lanes of slopes up to a bound, and all lanes that have it."""
    lanes = [short.lane for short in shorts_of(box, slopes_to(steep))]
    squares = [breadth_square(lane) for lane in lanes]
    greatest = greatest_of(squares)
    return Broadest(greatest, tuple([lane for lane, square in zip(lanes, squares) if square == greatest]))


def breadth_square(lane):
    """Returns the true breadth of a lane squared, a ratio."""
    return lowest(lane.breadth * lane.breadth, square_with(lane.slope, 1))
