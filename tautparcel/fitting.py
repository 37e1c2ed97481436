"""The heights that stripes fit, and why they do not fit another one."""

from tautparcel.belts import check_height, height_of_day
from tautparcel.heights import Heights
from tautparcel.rims import Rim
from tautparcel.stripes import ascending_chords, cap_chords, trail_through


class NoHeight:
    """The index of the chord with which stripes cease to stand at any height together, or None."""
    def __init__(self, index):
        self.index = index

    def __eq__(self, other):
        return isinstance(other, NoHeight) and self.index == other.index


class Misfit:
    """Why stripes do not fit a height, and the chord that tells it."""
    def __init__(self, what, chord):
        self.what = what
        self.chord = chord

    def __eq__(self, other):
        return isinstance(other, Misfit) and self.what == other.what and self.chord == other.chord


def chords_with(rim, height, chord):
    """Returns the chords of the top that stand on one ribbon with a chord, as a dict; none if it meets a corner."""
    trail = trail_through(rim, height, chord)
    if trail.corner is not None:
        return {}
    return {found: True for found in cap_chords(trail, 0)}


def many_held(chords, found):
    """Returns how many of the chords, from the first one on, stand among those found."""
    many = 0
    while many < len(chords) and chords[many] in found:
        many += 1
    return many


def chords_by_days(stripes):
    """Returns for each day the chords on one ribbon with the first chord of the stripes."""
    rim = Rim(stripes.base, stripes.slope)
    return [chords_with(rim, height_of_day(rim.days, day), stripes.chords[0]) for day in range(rim.days)]


def heights_of_days(size, days):
    """Returns all heights of some days."""
    return Heights(size, tuple([(day, height_of_day(size, day), None) for day in days]))


def heights_that_fit(stripes):
    """Returns the heights that stripes fit, or NoHeight."""
    by_days = chords_by_days(stripes)
    held = [many_held(stripes.chords, found) for found in by_days]
    whole = len(stripes)
    days = [day for day, found in enumerate(by_days) if held[day] == whole and len(found) == whole]
    if days:
        return heights_of_days(stripes.period, days)
    longest = max(held)
    return NoHeight(None if longest == whole else longest)


def heights_that_have(stripes):
    """Returns the heights at which some ribbon has all chords of the stripes."""
    whole = len(stripes)
    held = [many_held(stripes.chords, found) for found in chords_by_days(stripes)]
    return heights_of_days(stripes.period, [day for day, many in enumerate(held) if many == whole])


def misfit_at(stripes, height):
    """Returns None if the stripes fit a height, or why they do not."""
    check_height(height)
    found = chords_with(Rim(stripes.base, stripes.slope), height, stripes.chords[0])
    if not found:
        return Misfit("corner", stripes.chords[0])
    held = many_held(stripes.chords, found)
    if held < len(stripes):
        return Misfit("apart", stripes.chords[held])
    more = [chord for chord in ascending_chords(list(found)) if chord not in stripes.chords]
    return Misfit("more", more[0]) if more else None
