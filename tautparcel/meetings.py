"""Times at which walks along ribbons meet."""

from math import lcm

from tautparcel.crossings import knots_between, lines_of, moment_top, scale_of
from tautparcel.errors import BadBeat, BadTime, BadWalk, OtherBox, TooMany
from tautparcel.facerows import MOST_FACES
from tautparcel.farplaces import far_place, is_far_ratio
from tautparcel.ratios import (
    ZERO, common_bottom, compare, is_ratio, is_sequence, is_whole, least_of, lowest, minus, negative, over, plus, times,
)
from tautparcel.ribbons import same_ribbon, start_moments
from tautparcel.steps import back_pass

FASTEST = 1000


class Walk:
    """One who goes along a ribbon from a start at a pace."""
    def __init__(self, ribbon, start, pace):
        if not is_far_ratio(start):
            raise BadWalk("start")
        if not is_whole(pace, -FASTEST, FASTEST):
            raise BadWalk("pace")
        self.ribbon = ribbon
        self.start = tuple(start)
        self.pace = pace

    def __eq__(self, other):
        return (
            isinstance(other, Walk) and self.ribbon == other.ribbon and self.start == other.start
            and self.pace == other.pace
        )


class Meeting:
    """The time and the place at which two walks meet."""
    def __init__(self, time, place):
        self.time = time
        self.place = place

    def __eq__(self, other):
        return isinstance(other, Meeting) and self.time == other.time and self.place == other.place


def check_beat(beat, index):
    """Returns a beat, or raises BadBeat with the index."""
    if not is_sequence(beat, 2, 2):
        raise BadBeat(index, "couple")
    if not is_ratio(beat[0]):
        raise BadBeat(index, "first")
    if not is_ratio(beat[1]) or compare(beat[1], ZERO) < 0:
        raise BadBeat(index, "every")
    return beat


def common_time(beat, mate):
    """Returns the least time from 0 on of both beats, or None."""
    return time_of_both(check_beat(beat, 0), check_beat(mate, 1))


def time_of_both(beat, mate):
    """Returns the least time from 0 on of two beats that are not checked, or None."""
    bottom = common_bottom([*beat, *mate])
    first, every = [entry[0] * (bottom // entry[1]) for entry in beat]
    other, other_every = [entry[0] * (bottom // entry[1]) for entry in mate]
    found = number_of_both(first, every, other, other_every)
    return None if found is None else lowest(found, bottom)


def number_of_both(first, every, other, other_every):
    """Returns the least whole number from 0 on of two beats of whole numbers, or None."""
    if every == 0:
        met = first == other if other_every == 0 else (first - other) % other_every == 0
        return first if met and first >= 0 else None
    if other_every == 0:
        return number_of_both(other, other_every, first, every)
    common, factor = divisor_and_factor(every, other_every)
    apart = other - first
    if apart % common != 0:
        return None
    return (first + every * (apart // common * factor)) % lcm(every, other_every)


def divisor_and_factor(one, other):
    """Returns the greatest common divisor of two numbers, and what times the first one is it modulo the second one."""
    factor, further = 1, 0
    while other != 0:
        whole = one // other
        one, other = other, one - whole * other
        factor, further = further, factor - whole * further
    return (one, factor)


def walk_at(walker, time):
    """Returns the FarPlace of a walk at a time."""
    if not is_far_ratio(time) or time[0] < 0:
        raise BadTime(time)
    return walked_to(walker, time)


def walked_to(walker, time):
    """Returns the FarPlace of a walk at a time, which is not checked."""
    return far_place(walker.ribbon, plus(walker.start, times((walker.pace, 1), time)))


def meet_when(walker, mate):
    """Returns the first Meeting of two walks, or None if they never meet."""
    if walker.ribbon.box != mate.ribbon.box:
        raise OtherBox(mate.ribbon.box.sides)
    if max(len(walker.ribbon), len(mate.ribbon)) > MOST_FACES:
        raise TooMany(MOST_FACES)
    found = crossing_times(walker, mate)
    if same_ribbon(walker.ribbon, mate.ribbon):
        found.append(reaching_time(walker, mate))
    found = [time for time in found if time is not None]
    if not found:
        return None
    time = least_of(found)
    return Meeting(time, walked_to(walker, time).place)


def crossing_times(walker, mate):
    """Returns for each crossing of two walks' ribbons the first time at which both are there, or None."""
    ribbon, other = walker.ribbon, mate.ribbon
    scale = scale_of([ribbon, other])
    found = []
    for knot in knots_between(ribbon.box, lines_of(ribbon, 0, scale), lines_of(other, 1, scale), scale):
        moment, other_moment = [knot_moment(line, knot.point, scale) for line in (knot.line, knot.other)]
        found.append(time_of_visits([
            (ribbon.length, walker.start, walker.pace, moment), (other.length, mate.start, mate.pace, other_moment),
        ]))
    return found


def knot_moment(line, point, scale):
    """Returns the moment at which a line is at a point, as a ratio."""
    square = line.first * line.first + line.second * line.second
    return lowest(moment_top(line, point), point[2] * scale * square)


def reaching_time(walker, mate):
    """Returns the first time at which one of two walks on one ribbon reaches the other one, or None."""
    sense, begin = begun_along(walker.ribbon, mate.ribbon)
    apart = minus(plus(begin, times((sense, 1), mate.start)), walker.start)
    return time_of_visits([(walker.ribbon.length, ZERO, walker.pace - sense * mate.pace, apart)])


def begun_along(ribbon, mate):
    """Returns the sense of the mate, another telling of a ribbon, and where it begins: (1 or -1, moment)."""
    first = ribbon.passes[0]
    back = back_pass(first)
    for taken, moment in zip(mate.passes, start_moments(mate)):
        if taken == first:
            return (1, negative(moment))
        if taken == back:
            return (-1, plus(first.length, moment))
    return None


def time_of_visits(visits):
    """Returns the least time from 0 on of one or two visits, or None.

    A visit (length, start, pace, moment) is all times at which a walk round so long a ribbon is at the moment.
    """
    beats = []
    for length, start, pace, moment in visits:
        apart = minus(moment, start)
        if pace != 0:
            beats.append((over(apart, (pace, 1)), lowest(length, abs(pace))))
        elif apart[0] % (apart[1] * length) != 0:
            return None
    # Who stands there is there at all times.
    return time_of_both(beats[0], beats[-1]) if beats else ZERO
