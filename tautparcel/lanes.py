"""Strips of places with one direction, and all lanes of a slope."""

from tautparcel.boxes import corner_numbers
from tautparcel.courses import closed_length, course_of, gates_of, slack_of
from tautparcel.errors import BadStrip, NoLane, TooMany
from tautparcel.facerows import MOST_FACES, begun_at, least_start, turned_back
from tautparcel.ratios import is_whole
from tautparcel.slopes import check_direction, check_slope, directions_on, reversed_direction, side_number
from tautparcel.taut import Lane


class Strip:
    """Places of a face, between two sides across a direction."""
    def __init__(self, face, direction, low, high):
        self.face = face
        self.direction = direction
        self.low = low
        self.high = high

    def __eq__(self, other):
        return (
            isinstance(other, Strip) and self.face == other.face and self.direction == other.direction
            and self.low == other.low and self.high == other.high
        )


class Split:
    """The corner that parts a strip where it leaves its face."""
    def __init__(self, corner):
        self.corner = corner

    def __eq__(self, other):
        return isinstance(other, Split) and self.corner == other.corner


class Lanes:
    """Lanes of a slope on a box."""
    def __init__(self, box, slope, lanes):
        self.box = box
        self.slope = slope
        self.lanes = lanes

    def __eq__(self, other):
        return (
            isinstance(other, Lanes) and self.box == other.box and self.slope == other.slope
            and self.lanes == other.lanes
        )

    def __len__(self):
        return len(self.lanes)

    def __iter__(self):
        return iter(self.lanes)

    def number_of(self, lane):
        """Returns the number of a lane, wherever it begins, or raises NoLane."""
        settled = settled_lane(lane)
        for number, held in enumerate(self.lanes):
            if held.row == lane.row and settled_lane(held) == settled:
                return number
        raise NoLane(lane)


def sideways_range(box, face, direction):
    """Returns the least and the greatest sideways measure of the corners of a face."""
    return side_range(box, face, check_direction(face, direction))


def side_range(box, face, direction):
    """Returns the range of a direction on a face, and checks nothing."""
    corners = [corner_numbers(box, corner) for corner in range(8)]
    own = box.sides[face // 2] * (face % 2)
    sides = [side_number(face, direction, numbers) for numbers in corners if numbers[face // 2] == own]
    return (min(sides), max(sides))


def check_strip(box, strip):
    """Returns a strip of any values as a good one; raises BadFace, BadDirection, BadStrip."""
    direction = check_direction(strip.face, strip.direction)
    least, greatest = side_range(box, strip.face, direction)
    if not is_whole(strip.low, least, greatest - 1):
        raise BadStrip("low")
    if not is_whole(strip.high, strip.low + 1, greatest):
        raise BadStrip("high")
    return Strip(strip.face, direction, strip.low, strip.high)


def strip_after(box, strip):
    """Returns the strip in which the rays of a strip go on, or the Split that parts them."""
    return strip_over(box, check_strip(box, strip))


def strip_over(box, strip):
    """Returns the strip after a strip, or its Split, and checks nothing."""
    gates = gates_of(box, strip.face, strip.direction)
    split = gates[0].left
    if strip.low < split < strip.high and len(gates) == 2:
        return Split(gates[0].corners[1])
    gate = gates[0] if strip.high <= split else gates[1]
    return Strip(gate.face, gate.direction, strip.low + gate.side_step, strip.high + gate.side_step)


def strip_before(box, strip):
    """Returns the strip from which the rays of a strip come, or the Split that parts them."""
    found = strip_over(box, turned_strip(check_strip(box, strip)))
    if isinstance(found, Split):
        return found
    return turned_strip(found)


def turned_strip(strip):
    """Returns the strip gone backwards."""
    return Strip(strip.face, reversed_direction(strip.direction), -strip.high, -strip.low)


def strips_of(lane):
    """Returns the strips of a lane, one for each of its faces."""
    middle = 2 * lane.low + lane.breadth
    course = course_of(lane.box, lane.faces[0], lane.direction, middle, 2, len(lane.faces))
    lows = [(step[2] - lane.breadth) // 2 for step in course.steps]
    return tuple([
        Strip(step[0], step[1], low, low + lane.breadth) for step, low in zip(course.steps, lows)
    ])


def settled_lane(lane):
    """Returns the same lane, begun so that its faces are the least."""
    index = least_start(lane.faces)
    strip = strips_of(lane)[index]
    return lane_begun(lane, begun_at(lane.faces, index), strip)


def lane_begun(lane, faces, strip):
    """Returns a lane of the length and breadth of a lane, with these faces and this first strip."""
    return Lane(lane.box, tuple(faces), strip.direction, strip.low, lane.length, lane.breadth)


def twin_of(lane):
    """Returns the settled lane of the same ribbons gone backwards."""
    strips = [turned_strip(strip) for strip in turned_back(strips_of(lane))]
    faces = turned_back(lane.faces)
    index = least_start(faces)
    return lane_begun(lane, begun_at(faces, index), strips[index])


def lane_of_strip(box, strip):
    """Returns the settled lane that holds a strip."""
    strip = check_strip(box, strip)
    lane = lane_through(box, strip.face, strip.direction, strip.low)
    if lane.low + lane.breadth < strip.high:
        raise NoLane(strip)
    return settled_lane(lane)


def lane_through(box, face, direction, low):
    """Returns the lane that holds a unit strip, begun there; raises TooMany."""
    course = course_of(box, face, direction, 2 * low + 1, 2, MOST_FACES)
    if not course.closed:
        raise TooMany(MOST_FACES)
    return lane_along(box, course, 2)


def lane_along(box, course, scale):
    """Returns the lane in which a closed course lies, begun where the course begins."""
    direction, side = course.steps[0][1:3]
    fall, rise = slack_of(course, scale)
    faces = tuple([step[0] for step in course.steps])
    return Lane(box, faces, direction, (side - fall) // scale, closed_length(course), (fall + rise) // scale)


def lanes_of(box, slope):
    """Returns all lanes of a slope, in ascending order, twins side by side."""
    slope = check_slope(slope, True)
    found = []
    ends = {}
    for face in range(6):
        for direction in directions_on(face, slope):
            low, greatest = side_range(box, face, direction)
            while low < greatest:
                if (face, direction, low) not in ends:
                    lane = lane_through(box, face, direction, low)
                    found.append(settled_lane(lane))
                    for strip in strips_of(lane):
                        ends[(strip.face, strip.direction, strip.low)] = strip.high
                low = ends[(face, direction, low)]
    rows = sorted([(lane.row, lane.faces, index) for index, lane in enumerate(found)])
    return Lanes(box, slope, tuple([found[row[2]] for row in rows]))
