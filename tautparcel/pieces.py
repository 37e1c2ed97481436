"""Pieces into which ribbons of a lot cut the skin.

On each face the lines of the ribbons cut parts, convex polygons; parts of two faces that share a bit of an edge
hang together. All is told by whole numbers over one bottom, over which all corners of parts are whole.
"""

from tautparcel.boxes import FACE_AXES, corner_numbers
from tautparcel.crossings import (
    by_faces, check_lot, knots_among, lines_in, meets_from, place_of_numbers, scale_of,
)
from tautparcel.errors import OnRibbon
from tautparcel.places import check_place, end_of_face, faces_holding, framed
from tautparcel.ratios import lowest
from tautparcel.ribbons import moments_at
from tautparcel.slopes import directions_on, sideways
from tautparcel.webs import lots_over


class Piece:
    """A piece of the skin."""
    def __init__(self, parts, corners, bends, holes, area):
        self.parts = parts
        self.corners = corners
        self.bends = bends
        self.holes = holes
        self.area = area

    def __eq__(self, other):
        return (
            isinstance(other, Piece) and self.parts == other.parts and self.corners == other.corners
            and self.bends == other.bends and self.holes == other.holes and self.area == other.area
        )


class Grid:
    """The lines on a face: the two directions, and the ascending sides of the lines along each, over the scale."""
    def __init__(self, face, directions, levels, scale):
        self.face = face
        self.directions = directions
        self.levels = levels
        self.scale = scale


class Part:
    """A polygon of a face: its name, its area doubled, its corners inside the lines, and its bits of edges.

    Corners are three whole numbers; a bit of an edge is a couple of such, the lesser one first.
    """
    def __init__(self, name, doubled, inner, bits):
        self.name = name
        self.doubled = doubled
        self.inner = inner
        self.bits = bits


class Cut:
    """The skin cut by ribbons: the grids of the six faces, all parts, and the lots of indexes of parts, one a piece.

    The numbers of parts are those of `meets` times `more`. `crossed` has such numbers of all crossings as keys, and
    `homes` the number of its piece for the name of each part.
    """
    def __init__(self, ribbons, grids, meets, more, parts, lots):
        self.ribbons = ribbons
        self.box = ribbons[0].box
        self.grids = grids
        self.meets = meets
        self.bottom = meets.bottom * more
        self.parts = parts
        self.lots = lots
        self.crossed = {tuple([entry * more for entry in numbers]): True for numbers, _ in meets.rows}
        self.homes = {parts[index].name: number for number, lot in enumerate(lots) for index in lot}


def cut_by(ribbons):
    """Returns the skin cut by a lot of ribbons, which is not checked."""
    box, slope = ribbons[0].box, ribbons[0].slope
    scale = scale_of(ribbons)
    lines = lines_in(ribbons, scale)
    grids = [grid_of(face, slope, held, scale) for face, held in enumerate(by_faces(lines))]
    meets = meets_from(ribbons, knots_among(box, lines, scale), scale)
    # Lines end on edges at places over the scale times a number of the slope.
    more = slope[0] * max(slope[1], 1)
    parts = []
    for grid in grids:
        parts.extend(parts_on(box, grid, meets.bottom * more))
    return Cut(ribbons, grids, meets, more, parts, lots_over(len(parts), links_of(parts)))


def grid_of(face, slope, lines, scale):
    """Returns the grid of a face with these lines."""
    directions = directions_on(face, slope)[:2]
    levels = []
    for direction in directions:
        first, second = framed(face, direction)
        along = [line for line in lines if line.first * second == line.second * first]
        sides = [line.side if (line.first, line.second) == (first, second) else -line.side for line in along]
        levels.append(sorted(sides))
    return Grid(face, directions, levels, scale)


def parts_on(box, grid, bottom):
    """Returns the parts of a face, ascending by name."""
    axes = FACE_AXES[grid.face]
    first, second = [box.sides[axis] * bottom for axis in axes]
    found = []
    whole = [(0, 0), (first, 0), (first, second), (0, second)]
    for index, band in enumerate(slices_of(whole, grid, 0, bottom)):
        for other, polygon in enumerate(slices_of(band, grid, 1, bottom)):
            if len(polygon) > 2:
                found.append(part_of(box, (grid.face, index, other), polygon, bottom))
    return found


def slices_of(polygon, grid, which, bottom):
    """Returns what the lines along the one or the other direction cut of a convex polygon, from the lowest side on."""
    direction = framed(grid.face, grid.directions[which])
    found = []
    rest = polygon
    for level in grid.levels[which]:
        low, rest = halves_of(rest, direction, level * (bottom // grid.scale))
        found.append(low)
    return [*found, rest]


def halves_of(polygon, direction, level):
    """Returns the corners of a convex polygon with sides up to a level, and those with sides from it on."""
    sides = [direction[0] * second - direction[1] * first - level for first, second in polygon]
    low = []
    high = []
    for index, side in enumerate(sides):
        here = polygon[index - 1]
        before = sides[index - 1]
        if before < 0 < side or side < 0 < before:
            met = [one + (other - one) * before // (before - side) for one, other in zip(here, polygon[index])]
            low.append(tuple(met))
            high.append(tuple(met))
        if side <= 0:
            low.append(polygon[index])
        if side >= 0:
            high.append(polygon[index])
    return (low, high)


def part_of(box, name, polygon, bottom):
    """Returns the part with a name and a polygon."""
    numbers = [numbers_on(box, name[0], corner, bottom) for corner in polygon]
    doubled = 0
    bits = []
    for index, corner in enumerate(polygon):
        before = polygon[index - 1]
        doubled += before[0] * corner[1] - before[1] * corner[0]
        if on_one_edge(box, numbers[index - 1], numbers[index], bottom):
            bits.append((min(numbers[index - 1], numbers[index]), max(numbers[index - 1], numbers[index])))
    ends = [end for bit in bits for end in bit]
    inner = [corner for corner in numbers if corner not in ends]
    return Part(name, abs(doubled), inner, bits)


def numbers_on(box, face, corner, bottom):
    """Returns the three whole numbers of a place of a face that is told by two."""
    numbers = [end_of_face(box, face) * bottom] * 3
    axes = FACE_AXES[face]
    numbers[axes[0]] = corner[0]
    numbers[axes[1]] = corner[1]
    return tuple(numbers)


def on_one_edge(box, one, other, bottom):
    """Tells whether two places of a face lie on one edge of it."""
    ends = [
        axis for axis in range(3) if one[axis] == other[axis] and one[axis] in (0, box.sides[axis] * bottom)
    ]
    return len(ends) == 2


def links_of(parts):
    """Returns the couples of indexes of parts that share a bit of an edge."""
    held = {}
    links = []
    for index, part in enumerate(parts):
        for bit in part.bits:
            if bit in held:
                links.append((held[bit], index))
            held[bit] = index
    return links


def pieces_of(ribbons):
    """Returns the pieces into which a lot of ribbons cuts the skin, ascending by their parts."""
    cut = cut_by(check_lot(ribbons))
    return tuple([piece_from(cut, [cut.parts[index] for index in lot]) for lot in cut.lots])


def piece_from(cut, parts):
    """Returns the piece of parts that hang together."""
    places = [tuple([entry * cut.bottom for entry in corner_numbers(cut.box, corner)]) for corner in range(8)]
    bits = {}
    bends = []
    for part in parts:
        bends.extend(part.inner)
        for bit in part.bits:
            bits[bit] = True
    ends = [end for bit in bits for end in bit]
    # At a crossing on an edge the angles on both faces beside a bit of the edge make one right angle.
    bends.extend([end for end in ends if end in cut.crossed])
    corners = tuple([corner for corner, place in enumerate(places) if place in ends])
    area = lowest(sum([part.doubled for part in parts]), 2 * cut.bottom * cut.bottom)
    holes = (4 - len(corners) - len(bends)) // 4
    bends = tuple([place_of_numbers(numbers, cut.bottom) for numbers in sorted(bends)])
    return Piece(tuple([part.name for part in parts]), corners, bends, holes, area)


def lines_below(grid, place):
    """Returns how many lines along the two directions of a grid have less sides than a place."""
    found = []
    for direction, levels in zip(grid.directions, grid.levels):
        top, bottom = sideways(grid.face, direction, place)
        found.append(len([level for level in levels if level * bottom < top * grid.scale]))
    return tuple(found)


def home_of(cut, place):
    """Returns the number of the piece in which a place lies; raises BadPlace, then OnRibbon."""
    fixed = check_place(cut.box, place)
    for number, ribbon in enumerate(cut.ribbons):
        if moments_at(ribbon, fixed):
            raise OnRibbon(place, number)
    face = faces_holding(cut.box, fixed)[0]
    return home_of_part(cut, face, lines_below(cut.grids[face], fixed))


def home_of_part(cut, face, below):
    """Returns the number of the piece of the part of a face with so many lines below it along both directions."""
    return cut.homes[(face, below[0], below[1])]


def piece_at(ribbons, place):
    """Returns the number of the piece in which a place lies."""
    return home_of(cut_by(check_lot(ribbons)), place)
