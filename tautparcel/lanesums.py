"""Sums over lanes: areas, shares of faces, strips on a face, and judged rows of all lanes."""

from tautparcel.boxes import check_face
from tautparcel.errors import BadFaceRow
from tautparcel.facerows import check_facerow, least_begun
from tautparcel.lanes import strips_of
from tautparcel.ratios import lowest, sum_of, times
from tautparcel.slopes import check_direction, check_slope
from tautparcel.taut import Lane, lane_passes, taut_row


def area_of(lane):
    """Returns the area of a lane."""
    return lane.length * lane.breadth


def whole_area(lanes):
    """Returns the sum of the areas of all lanes."""
    return sum([area_of(lane) for lane in lanes])


def whole_length(lanes):
    """Returns the sum of the lengths of all lanes."""
    return sum([lane.length for lane in lanes])


def middle_passes(lane):
    """Returns the passes of the ribbon in the middle of a lane."""
    return lane_passes(lane, lowest(lane.breadth, 2))


def share_of(lane, face):
    """Returns the area of a face over which a lane goes."""
    check_face(face)
    return face_share(lane, middle_passes(lane), face)


def face_share(lane, passes, face):
    """Returns the share of a face in a lane whose middle passes are told."""
    lengths = [taken.length for taken in passes if taken.face == face]
    return times(sum_of(lengths), (lane.breadth, 1))


def shares_of(lane):
    """Returns the shares of the six faces in a lane."""
    passes = middle_passes(lane)
    return tuple([face_share(lane, passes, face) for face in range(6)])


def strips_on(lanes, face, direction):
    """Returns (low, high, lane, strip) for all strips on a face in a direction, ascending."""
    direction = check_direction(face, direction)
    found = []
    for number, lane in enumerate(lanes):
        for index, strip in enumerate(strips_of(lane)):
            if strip.face == face and strip.direction == direction:
                found.append((strip.low, strip.high, number, index))
    return tuple(sorted(found))


def rows_fault(box, slope, rows):
    """Judges whether rows of faces name all lanes of a slope: None, or the first word that applies."""
    slope = check_slope(slope, True)
    earlier = {}
    area = 0
    for item in rows:
        try:
            row = check_facerow(item)
        except BadFaceRow:
            return "row"
        lane = taut_row(box, row)
        if not isinstance(lane, Lane):
            return "lane"
        if lane.slope != slope:
            return "slope"
        begun = least_begun(row)
        if begun in earlier:
            return "twice"
        earlier[begun] = True
        area += area_of(lane)
    return "lacking" if area < 4 * box.skin_area else None


def longest_lane(lanes):
    """Returns the number of the first lane of the greatest length."""
    lengths = [lane.length for lane in lanes]
    return lengths.index(max(lengths))


def broadest_lane(lanes):
    """Returns the number of the first lane of the greatest breadth."""
    breadths = [lane.breadth for lane in lanes]
    return breadths.index(max(breadths))
