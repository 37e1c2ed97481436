"""Ribbons: rays that come back to their beginning."""

from tautparcel.boxes import check_face
from tautparcel.courses import closed_length, starts_of
from tautparcel.errors import BadIndex, ParcelError
from tautparcel.places import compare_places, faces_holding, numbers_over
from tautparcel.ratios import ZERO, common_bottom, compare, is_ratio, is_whole, minus, over, plus
from tautparcel.rays import check_passes, corner_of_course, course_from
from tautparcel.slopes import sideways, slope_on
from tautparcel.steps import Pass, back_pass, checked_start, next_start, pass_from


class Ribbon:
    """A ribbon, once round."""
    def __init__(self, box, slope, passes, length):
        self.box = box
        self.slope = slope
        self.passes = passes
        self.length = length
        self.faces = tuple([taken.face for taken in passes])

    def __eq__(self, other):
        return (
            isinstance(other, Ribbon) and self.box == other.box and self.slope == other.slope
            and self.passes == other.passes and self.length == other.length and self.faces == other.faces
        )

    def __len__(self):
        return len(self.passes)

    def __iter__(self):
        return iter(self.passes)


def ribbon_of(box, place, face, direction):
    """Returns the ribbon through an entrance, or the MeetsCorner of its ray."""
    place, face, direction = checked_start(box, place, face, direction, False)
    check_passes(box, face, direction)
    course = course_from(box, place, face, direction)
    if course.corner is not None:
        return corner_of_course(box, course, place)
    passes = passes_of(course, starts_of(box, course, common_bottom(place)))
    return Ribbon(box, slope_on(face, direction), passes, closed_length(course))


def passes_of(course, starts):
    """Returns the passes of a closed course with the places at which they begin."""
    ends = [*starts[1:], starts[0]]
    passes = []
    for step, start, end in zip(course.steps, starts, ends):
        passes.append(Pass(step[0], step[1], start, end, length_between(step[1], start, end)))
    return tuple(passes)


def length_between(direction, start, end):
    """Returns the length that leads in a direction from one place to the other."""
    axis = [axis for axis in range(3) if direction[axis] != 0][0]
    return over(minus(end[axis], start[axis]), (direction[axis], 1))


def ribbon_begun(ribbon, index):
    """Returns the ribbon that begins with the pass of this index."""
    if not is_whole(index, 0, len(ribbon) - 1):
        raise BadIndex(index)
    passes = (*ribbon.passes[index:], *ribbon.passes[:index])
    return Ribbon(ribbon.box, ribbon.slope, passes, ribbon.length)


def back_ribbon(ribbon):
    """Returns the ribbon gone backwards, from its first pass on."""
    turned = [back_pass(taken) for taken in ribbon.passes]
    return Ribbon(ribbon.box, ribbon.slope, tuple([turned[0], *turned[:0:-1]]), ribbon.length)


def comes_before(taken, other):
    """Tells whether a pass is less than another one: by face, by direction, by start."""
    if (taken.face, taken.direction) != (other.face, other.direction):
        return (taken.face, taken.direction) < (other.face, other.direction)
    return compare_places(taken.start, other.start) < 0


def least_index(passes):
    """Returns the index of the least pass."""
    best = 0
    for index, taken in enumerate(passes):
        if comes_before(taken, passes[best]):
            best = index
    return best


def least_ribbon(ribbon):
    """Returns the ribbon, in the one or the other sense, that begins with the least pass."""
    back = back_ribbon(ribbon)
    index = least_index(ribbon.passes)
    back_index = least_index(back.passes)
    if comes_before(back.passes[back_index], ribbon.passes[index]):
        return ribbon_begun(back, back_index)
    return ribbon_begun(ribbon, index)


def same_ribbon(ribbon, mate):
    """Tells whether two ribbons lie on the same places of one box."""
    return least_ribbon(ribbon) == least_ribbon(mate)


def length_square(ribbon):
    """Returns the square of the ribbon's true length."""
    first, second = ribbon.slope
    return ribbon.length * ribbon.length * (first * first + second * second)


def start_moments(ribbon):
    """Returns the lengths gone where the passes of a ribbon begin, since the first one began."""
    moment = ZERO
    moments = []
    for taken in ribbon.passes:
        moments.append(moment)
        moment = plus(moment, taken.length)
    return moments


def moments_at(ribbon, place):
    """Returns the moments at which a ribbon is at a place, ascending, and checks nothing."""
    faces = faces_holding(ribbon.box, place)
    found = []
    for taken, moment in zip(ribbon.passes, start_moments(ribbon)):
        if taken.face in faces:
            gone = gone_at(taken, place)
            if gone is not None:
                found.append(plus(moment, gone))
    return tuple(found)


def gone_at(taken, place):
    """Returns the length that a pass has gone at a place of its face, or None; its end does not count."""
    if sideways(taken.face, taken.direction, place) != sideways(taken.face, taken.direction, taken.start):
        return None
    gone = length_between(taken.direction, taken.start, place)
    return gone if compare(gone, ZERO) >= 0 and compare(gone, taken.length) < 0 else None


def chords_on(ribbon, face):
    """Returns the couples of ends of the ribbon's passes on a face, ascending."""
    check_face(face)
    chords = []
    for taken in ribbon.passes:
        if taken.face == face:
            forward = compare_places(taken.start, taken.end) < 0
            chords.append((taken.start, taken.end) if forward else (taken.end, taken.start))
    bottom = common_bottom([entry for chord in chords for place in chord for entry in place])
    rows = [(numbers_over(low, bottom), numbers_over(high, bottom), (low, high)) for low, high in chords]
    return tuple([row[2] for row in sorted(rows)])


def ribbon_fault(box, passes):
    """Judges a sequence of passes as those of a ribbon: None, or (index, word)."""
    if not isinstance(passes, (list, tuple)) or len(passes) == 0:
        return (0, "many")
    earlier = {}
    for index, taken in enumerate(passes):
        if not is_whole_pass(box, taken):
            return (index, "pass")
        if len(faces_holding(box, taken.start)) == 3 or len(faces_holding(box, taken.end)) == 3:
            return (index, "corner")
        if (taken.face, taken.direction, taken.start) in earlier:
            return (index, "twice")
        earlier[(taken.face, taken.direction, taken.start)] = True
        behind = passes[(index + 1) % len(passes)]
        if not isinstance(behind, Pass) or (behind.start, behind.face, behind.direction) != next_start(box, taken):
            return (index, "next")
    return None


def is_whole_pass(box, taken):
    """Tells whether a pass of any values is the very pass from its start, on the border of its face."""
    if not isinstance(taken, Pass):
        return False
    try:
        right = pass_from(box, taken.start, taken.face, taken.direction)
    except ParcelError:
        return False
    if taken != right or len(faces_holding(box, right.start)) == 1:
        return False
    # True is equal to 1, but no number.
    return is_ratio(taken.length) and [entry for entry in taken.end if not is_ratio(entry)] == []
