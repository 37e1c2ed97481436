"""Stripes: the chords that a ribbon has on the top of a box."""

from tautparcel.belts import check_base, check_days, check_height, corner_spots, is_spot, spot_at
from tautparcel.errors import BadChord, BadStripes
from tautparcel.ratios import common_bottom, compare, is_sequence, lowest, sum_of
from tautparcel.rims import GAITS, Rim, number_of_spot, over_cap, rim_corner, spot_of
from tautparcel.slopes import check_slope
from tautparcel.trails import leg_spots, legs_on, trail_at_mark

MOST_PERIOD = 200
MOST_CHORDS = 400
TOP_FACE = 5


class FoundChords:
    """Chords that the package found itself: the bottoms of their spots may be of any size."""
    def __init__(self, chords):
        self.chords = chords


class Stripes:
    """Chords of the top, with the gaits at their ends counted and their lengths summed up."""
    def __init__(self, base, slope, chords):
        rim = period_rim(base, slope)
        found = chords.chords if isinstance(chords, FoundChords) else checked_chords(rim, chords)
        lines = [line_between(rim, low, high) for low, high in found]
        gaits = [gait for line in lines for gait in line[:2]]
        self.base = rim.base
        self.slope = rim.slope
        self.chords = ascending_chords(found)
        self.gaits = (gaits.count(0), gaits.count(1))
        self.span = sum_of([line[2] for line in lines])

    def __eq__(self, other):
        return (
            isinstance(other, Stripes) and self.base == other.base and self.slope == other.slope
            and self.chords == other.chords and self.gaits == other.gaits and self.span == other.span
        )

    def __len__(self):
        return len(self.chords)

    def __iter__(self):
        return iter(self.chords)

    @property
    def period(self):
        """The number of days."""
        return 2 * (self.base[0] + self.base[1]) * self.slope[0] * self.slope[1]


def period_rim(base, slope):
    """Returns the rim of a base and a slope; raises BadBase, BadSlope, TooMany."""
    base = check_base(base)
    slope = check_slope(slope)
    rim = Rim(base, slope)
    check_days(rim.days, MOST_PERIOD)
    return rim


def line_between(rim, one, other):
    """Returns the gaits at the ends of the line over the top between two spots, and its length, or None."""
    for gait in range(2):
        to_gait, number, length = over_cap(rim, 0, gait, number_of_spot(rim, gait, one), one[1])
        met = rim_corner(rim, to_gait, number, one[1])
        if met is None and spot_of(rim, to_gait, number, one[1]) == other:
            return (gait, to_gait, lowest(length, rim.slope[0] * rim.slope[1] * one[1]))
    return None


def ordered_chord(one, other):
    """Returns the couple of two spots, the lesser first."""
    return (one, other) if compare(one, other) < 0 else (other, one)


def ascending_chords(chords):
    """Returns chords, couples of spots, in ascending order."""
    bottom = common_bottom([spot for chord in chords for spot in chord])
    numbers = [tuple([top * (bottom // own) for top, own in chord]) for chord in chords]
    order = sorted([(couple, index) for index, couple in enumerate(numbers)])
    return tuple([chords[index] for _, index in order])


def checked_chord(rim, chord):
    """Returns a chord of the top, the lesser spot first, or raises BadChord."""
    if not is_sequence(chord, 2, 2):
        raise BadChord("couple")
    if [spot for spot in chord if not is_spot(rim.base, spot)]:
        raise BadChord("spot")
    one, other = [tuple(spot) for spot in chord]
    corners = corner_spots(rim.base)
    if one in corners or other in corners:
        raise BadChord("corner")
    if line_between(rim, one, other) is None:
        raise BadChord("chord")
    return ordered_chord(one, other)


def checked_chords(rim, chords):
    """Returns chords of the top, each once, or raises BadStripes."""
    if not is_sequence(chords, 1, MOST_CHORDS):
        raise BadStripes(0, "many")
    known = {}
    for index, chord in enumerate(chords):
        try:
            told = checked_chord(rim, chord)
        except BadChord as wrong:
            raise BadStripes(index, wrong.what)
        if told in known:
            raise BadStripes(index, "twice")
        known[told] = True
    return list(known)


def check_chord(base, slope, chord):
    """Returns a chord of the top, the lesser spot first; raises BadBase, BadSlope, BadChord."""
    base = check_base(base)
    slope = check_slope(slope)
    return checked_chord(Rim(base, slope), chord)


def trail_through(rim, height, chord):
    """Follows the ray of a chord of the top at a height, from its lesser spot on."""
    gait = line_between(rim, chord[0], chord[1])[0]
    return trail_at_mark(rim, height, (chord[0], GAITS[gait]))


def cap_chords(trail, cap):
    """Returns the chords of a trail on a cap as couples of spots, in their order along the trail."""
    found = []
    for leg in legs_on(trail, cap):
        start, finish = leg_spots(trail, leg)
        found.append(ordered_chord(start, finish))
    return found


def stripes_through(rim, height, chord):
    """Returns the stripes of the ribbon through a chord at a height, or None, and checks nothing."""
    trail = trail_through(rim, height, chord)
    if trail.corner is not None:
        return None
    return Stripes(rim.base, rim.slope, FoundChords(cap_chords(trail, 0)))


def stripes_at(base, slope, height, chord):
    """Returns the stripes of the ribbon through a chord at a height, or None if its line meets a corner there."""
    rim = period_rim(base, slope)
    check_height(height)
    return stripes_through(rim, height, checked_chord(rim, chord))


def stripes_of(ribbon):
    """Returns the stripes of a ribbon."""
    slope = check_slope(ribbon.slope)
    base = ribbon.box.sides[:2]
    period_rim(base, slope)
    chords = []
    for taken in ribbon.passes:
        if taken.face == TOP_FACE:
            start, finish = [spot_at(base, place[0], place[1]) for place in (taken.start, taken.end)]
            chords.append(ordered_chord(start, finish))
    return Stripes(base, slope, FoundChords(chords))
