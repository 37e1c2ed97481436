"""Places far along a ribbon, which is gone round and round."""

from tautparcel.boxes import check_face
from tautparcel.errors import BadLength, BadNth
from tautparcel.places import check_place
from tautparcel.ratios import ZERO, compare, floor_of, is_ratio, is_whole, lowest, minus
from tautparcel.ribbons import moments_at, start_moments
from tautparcel.steps import Pass, moved_place

FARTHEST = 10 ** 12


class FarPlace:
    """The place reached after a length along a ribbon, the index of its pass, and how often it went round."""
    def __init__(self, place, index, rounds):
        self.place = place
        self.index = index
        self.rounds = rounds

    def __eq__(self, other):
        return (
            isinstance(other, FarPlace) and self.place == other.place and self.index == other.index
            and self.rounds == other.rounds
        )


def is_far_ratio(thing):
    """Tells whether the thing is a ratio of lengths and times that are let, also below 0."""
    return is_ratio(thing) and thing[1] <= FARTHEST and abs(thing[0]) <= FARTHEST * thing[1]


def check_length(length):
    """Returns a length along as a tuple, or raises BadLength."""
    if not is_far_ratio(length):
        raise BadLength(length)
    return tuple(length)


def rounds_and_rest(ribbon, length):
    """Returns how often a ribbon went round after a length, and the moment at which it is then."""
    rounds = floor_of(lowest(length[0], length[1] * ribbon.length))
    return (rounds, minus(length, (rounds * ribbon.length, 1)))


def place_after(ribbon, length):
    """Returns the FarPlace after a length along."""
    return far_place(ribbon, check_length(length))


def far_place(ribbon, length):
    """Returns the FarPlace after a length of any size."""
    rounds, moment = rounds_and_rest(ribbon, length)
    starts = start_moments(ribbon)
    index = len([start for start in starts if compare(start, moment) <= 0]) - 1
    taken = ribbon.passes[index]
    return FarPlace(moved_place(taken.start, taken.direction, minus(moment, starts[index])), index, rounds)


def nth_pass(ribbon, number):
    """Returns the pass that is gone as this number, round and round."""
    if not is_whole(number, -FARTHEST, FARTHEST):
        raise BadNth(number)
    taken = ribbon.passes[number % len(ribbon)]
    return Pass(taken.face, taken.direction, taken.start, taken.end, taken.length)


def count_until(ribbon, moments, length):
    """Returns how often one of the moments of a ribbon comes up to a length along, ends counted, from 0 on."""
    if compare(length, ZERO) < 0:
        return 0
    rounds, rest = rounds_and_rest(ribbon, length)
    return rounds * len(moments) + len([moment for moment in moments if compare(moment, rest) <= 0])


def passes_on(ribbon, face, length):
    """Returns how many passes on a face begin at a length along from 0 up to a length."""
    check_face(face)
    length = check_length(length)
    moments = [moment for taken, moment in zip(ribbon.passes, start_moments(ribbon)) if taken.face == face]
    return count_until(ribbon, moments, length)


def when_at(ribbon, place):
    """Returns the moments at which a ribbon is at a place, ascending."""
    return moments_at(ribbon, check_place(ribbon.box, place))


def times_at(ribbon, place, length):
    """Returns how many lengths along from 0 up to a length are at a place."""
    moments = when_at(ribbon, place)
    return count_until(ribbon, moments, check_length(length))
