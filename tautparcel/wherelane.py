"""Where a ray lies among the lanes, and the ribbons of a lane."""

from tautparcel.boxes import check_face
from tautparcel.courses import corner_length
from tautparcel.errors import BadSlope, BadStart, OtherLane, TooMany
from tautparcel.facerows import MOST_FACES, least_start
from tautparcel.lanes import lane_along, settled_lane, strips_of
from tautparcel.places import check_place, faces_holding
from tautparcel.ratios import common_bottom, compare, lowest, minus
from tautparcel.rays import course_from
from tautparcel.ribbons import Ribbon
from tautparcel.slopes import STEEPEST, reversed_direction, sideways, slope_on
from tautparcel.steps import checked_start
from tautparcel.taut import check_offset, lane_passes


class Where:
    """The lane of a ray, and its strip and offset there."""
    def __init__(self, lane, strip, offset):
        self.lane = lane
        self.strip = strip
        self.offset = offset

    def __eq__(self, other):
        return (
            isinstance(other, Where) and self.lane == other.lane and self.strip == other.strip
            and self.offset == other.offset
        )


class OnBorder:
    """The corner from which a ray comes onto a face, and how far it has gone since."""
    def __init__(self, corner, face, gone):
        self.corner = corner
        self.face = face
        self.gone = gone

    def __eq__(self, other):
        return (
            isinstance(other, OnBorder) and self.corner == other.corner and self.face == other.face
            and self.gone == other.gone
        )


def lane_at(box, place, face, direction):
    """Returns the Where of a ray, or its OnBorder if it meets a corner."""
    place, face, direction = checked_start(box, place, face, direction, False)
    slope = slope_on(face, direction)
    if max(slope) > STEEPEST:
        raise BadSlope(slope)
    course = course_from(box, place, face, direction)
    if course.corner is not None:
        return border_behind(box, place, face, direction)
    check_many(len(course.steps))
    lane, offset = lane_and_offset(box, course, place)
    index = least_start(lane.faces)
    return Where(settled_lane(lane), -index % len(lane.faces), offset)


def check_many(many):
    """Raises TooMany if a lane has so many faces that it is not told."""
    if many > MOST_FACES:
        raise TooMany(MOST_FACES)


def lane_and_offset(box, course, place):
    """Returns the lane of a closed course from a place, begun there, and the offset of the course."""
    scale = common_bottom(place)
    lane = lane_along(box, course, scale)
    return (lane, lowest(course.steps[0][2] - lane.low * scale, scale))


def border_behind(box, place, face, direction):
    """Returns the OnBorder of a ray behind which a corner lies."""
    # A place on an edge makes no difference: the line gone backwards leaves the face just there.
    course = course_from(box, place, face, reversed_direction(direction))
    return OnBorder(course.corner, course.steps[-1][0], corner_length(box, course, place))


def lanes_through(lanes, face, place):
    """Returns (lane, strip, offset) for all strips on a face that hold a place, ascending."""
    check_face(face)
    fixed = check_place(lanes.box, place)
    if face not in faces_holding(lanes.box, fixed):
        raise BadStart("face")
    found = []
    for number, lane in enumerate(lanes):
        for index, strip in enumerate(strips_of(lane)):
            if strip.face == face:
                side = sideways(face, strip.direction, fixed)
                if compare(side, (strip.low, 1)) > 0 and compare(side, (strip.high, 1)) < 0:
                    found.append((number, index, minus(side, (strip.low, 1))))
    return tuple(found)


def ribbon_in(lane, offset):
    """Returns the ribbon with an offset in a lane, begun with the lane's first face."""
    return ribbon_beside(lane, check_offset(lane, offset))


def ribbon_beside(lane, offset):
    """Returns the ribbon with an offset in a lane, which is not checked."""
    return Ribbon(lane.box, lane.slope, lane_passes(lane, offset), lane.length)


def middle_ribbon(lane):
    """Returns the ribbon in the middle of a lane."""
    return ribbon_beside(lane, lowest(lane.breadth, 2))


def lane_under(ribbon):
    """Returns the lane in which a ribbon lies, begun with its first pass, and its offset there; raises TooMany."""
    check_many(len(ribbon))
    first = ribbon.passes[0]
    course = course_from(ribbon.box, first.start, first.face, first.direction)
    return lane_and_offset(ribbon.box, course, first.start)


def lane_of(ribbon):
    """Returns the settled lane in which a ribbon lies, in its sense."""
    return settled_lane(lane_under(ribbon)[0])


def offset_of(ribbon):
    """Returns the offset of a ribbon in its lane."""
    return lane_under(ribbon)[1]


def aside(ribbon, other):
    """Returns how far to the left of a ribbon the other one lies in their lane."""
    lane, offset = lane_under(ribbon)
    other_lane, other_offset = lane_under(other)
    if settled_lane(lane) != settled_lane(other_lane):
        raise OtherLane(other)
    return minus(other_offset, offset)
