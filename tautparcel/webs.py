"""Lanes beside corner ways, and how lanes hang together over these."""

from tautparcel.borders import border_of
from tautparcel.boxes import corner_numbers
from tautparcel.cornerways import all_corner_ways, inward_direction
from tautparcel.errors import BadNumber
from tautparcel.lanes import strips_of
from tautparcel.ratios import is_whole
from tautparcel.slopes import side_number


class Link:
    """The numbers of the lanes on both sides of a corner way, and the key of the way."""
    def __init__(self, left, right, way):
        self.left = left
        self.right = right
        self.way = way

    def __eq__(self, other):
        return (
            isinstance(other, Link) and self.left == other.left and self.right == other.right
            and self.way == other.way
        )


def strip_ends(lanes):
    """Returns the numbers of the lanes by the low ends of their strips, and by the high ends, as two dicts."""
    lows = {}
    highs = {}
    for number, lane in enumerate(lanes):
        for strip in strips_of(lane):
            lows[(strip.face, strip.direction, strip.low)] = number
            highs[(strip.face, strip.direction, strip.high)] = number
    return (lows, highs)


def beside_way(ends, way):
    """Returns the numbers of the lanes on the left and on the right of a way."""
    direction = inward_direction(way.start, way.face, way.slope)
    side = side_number(way.face, direction, corner_numbers(way.box, way.start))
    # Strips of two lanes part at each corner way, so that one begins just where the way lies and one ends there.
    lows, highs = ends
    return (lows[(way.face, direction, side)], highs[(way.face, direction, side)])


def lanes_beside(lanes, way):
    """Returns the numbers of the lanes on the left and on the right of a way, both in its direction."""
    return beside_way(strip_ends(lanes), way)


def web_of(lanes):
    """Returns the links of all corner ways, ascending by key."""
    ends = strip_ends(lanes)
    links = []
    for way in all_corner_ways(lanes.box, lanes.slope):
        left, right = beside_way(ends, way)
        links.append(Link(left, right, way.key))
    return tuple(links)


def borders_of(lanes, number):
    """Returns the left and the right border of the lane with a number."""
    if not is_whole(number, 0, len(lanes) - 1):
        raise BadNumber(number)
    ends = strip_ends(lanes)
    ways = all_corner_ways(lanes.box, lanes.slope)
    couples = [beside_way(ends, way) for way in ways]
    # On its left border a lane lies to the right of the ways.
    left = [way for way, couple in zip(ways, couples) if couple[1] == number][0]
    right = [way for way, couple in zip(ways, couples) if couple[0] == number][0]
    return (border_of(left, "right"), border_of(right, "left"))


def web_lots(lanes):
    """Returns the lots of lanes that hang together over links, ascending."""
    return lots_over(len(lanes), [(link.left, link.right) for link in web_of(lanes)])


def lots_over(many, couples):
    """Returns the lots into which so many numbers fall that hang together by couples, ascending."""
    beside = [[] for _ in range(many)]
    for one, other in couples:
        beside[one].append(other)
        beside[other].append(one)
    lots = []
    seen = [False] * many
    for number in range(many):
        if not seen[number]:
            lots.append(lot_from(beside, number, seen))
    return tuple(lots)


def lot_from(beside, number, seen):
    """Returns the lot of a number, ascending, and marks all of it as seen."""
    seen[number] = True
    lot = [number]
    ahead = [number]
    while ahead:
        here = ahead.pop()
        for other in beside[here]:
            if not seen[other]:
                seen[other] = True
                lot.append(other)
                ahead.append(other)
    return tuple(sorted(lot))
