"""Facts about the ribbons with given stripes: true at a height, and at all heights."""

from tautparcel.belts import check_height
from tautparcel.errors import BadChord, BadFact, NoFitting, NotFitting
from tautparcel.fitting import NoHeight, heights_that_fit, misfit_at
from tautparcel.forms import growth_of
from tautparcel.ratios import ZERO, compare, floor_of, is_ratio, is_sequence, is_whole, minus, over
from tautparcel.rims import Rim
from tautparcel.stripes import cap_chords, check_chord, trail_through
from tautparcel.trails import crossings_on, length_with, self_crossings

COUNTED = ("bottom crossings", "crossings at most")
MEASURED = ("length at most", "rest")
MOST_NUMBER = 10 ** 9
MOST_RATIO = 10 ** 12


class Sure:
    """The least height; a fact is true at all of them."""
    def __init__(self, height):
        self.height = height

    def __eq__(self, other):
        return isinstance(other, Sure) and self.height == other.height


class Never:
    """The least height; a fact is true at none of them."""
    def __init__(self, height):
        self.height = height

    def __eq__(self, other):
        return isinstance(other, Never) and self.height == other.height


class Both:
    """The least height at which a fact is true, and the least at which it is false."""
    def __init__(self, yes, no):
        self.yes = yes
        self.no = no

    def __eq__(self, other):
        return isinstance(other, Both) and self.yes == other.yes and self.no == other.no


def check_fact(stripes, fact):
    """Returns a fact as a tuple, a chord in it with the lesser spot first, or raises BadFact."""
    if not is_sequence(fact, 2, 2) or fact[0] not in ("bottom", *COUNTED, *MEASURED):
        raise BadFact("fact")
    word, told = fact
    if word in COUNTED:
        if not is_whole(told, 0, MOST_NUMBER):
            raise BadFact("number")
        return (word, told)
    if word in MEASURED:
        if not is_ratio(told) or told[1] > MOST_NUMBER or not 0 <= told[0] <= MOST_RATIO * told[1]:
            raise BadFact("ratio")
        return (word, tuple(told))
    try:
        # Seen from above, lines on the bottom have the directions of the mirrored slope.
        return (word, check_chord(stripes.base, (stripes.slope[1], stripes.slope[0]), told))
    except BadChord as wrong:
        raise BadFact(wrong.what)


def length_of_trail(trail, height):
    """Returns the length of a ribbon at a height, a ratio."""
    return length_with(trail.rim.slope, trail.rest, trail.belts, height)


def is_true(trail, fact, height):
    """Tells whether a fact is true of the ribbon of a trail at a height of its day."""
    word, told = fact
    if word == "bottom":
        return told in cap_chords(trail, 1)
    if word == "bottom crossings":
        return crossings_on(trail, 1) == told
    if word == "crossings at most":
        return self_crossings(trail, height) <= told
    if word == "length at most":
        return compare(length_of_trail(trail, height), told) <= 0
    return trail.rest == told


def steps_to_false(trail, fact, height):
    """Returns how many times the days must come round until a fact, true at a height, is false, or None if never."""
    word, told = fact
    rim = trail.rim
    if word == "crossings at most":
        growth = growth_of(rim.slope, trail.belts[0], trail.belts[1])
        return None if growth == 0 else (told - self_crossings(trail, height)) // growth + 1
    if word == "length at most":
        growth = length_with(rim.slope, ZERO, trail.belts, rim.days)
        return floor_of(over(minus(told, length_of_trail(trail, height)), growth)) + 1
    return None


def fact_at(stripes, fact, height):
    """Tells whether a fact is true at a height that the stripes fit."""
    fact = check_fact(stripes, fact)
    check_height(height)
    if misfit_at(stripes, height) is not None:
        raise NotFitting(height)
    trail = trail_through(Rim(stripes.base, stripes.slope), height, stripes.chords[0])
    return is_true(trail, fact, height)


def heights_between(stripes, low, high):
    """Returns the least height from low to high of each day that the stripes fit, ascending."""
    fitting = heights_that_fit(stripes)
    if isinstance(fitting, NoHeight):
        return []
    size = fitting.size
    found = [max(first, low + (day - low) % size) for day, first, _ in fitting.rows]
    return sorted([height for height in found if high is None or height <= high])


def sure_fact(stripes, fact, low=1, high=None):
    """Returns whether a fact is true at all heights from low to high that the stripes fit: Sure, Never or Both."""
    fact = check_fact(stripes, fact)
    check_height(low)
    if high is not None:
        check_height(high)
    heights = heights_between(stripes, low, high)
    if not heights:
        raise NoFitting(low, high)
    rim = Rim(stripes.base, stripes.slope)
    trues = []
    falses = []
    for height in heights:
        trail = trail_through(rim, height, stripes.chords[0])
        if is_true(trail, fact, height):
            trues.append(height)
            steps = steps_to_false(trail, fact, height)
            if steps is not None and (high is None or height + steps * rim.days <= high):
                falses.append(height + steps * rim.days)
        else:
            falses.append(height)
    if not falses:
        return Sure(heights[0])
    return Both(trues[0], min(falses)) if trues else Never(heights[0])
