"""Heights that no stripes tell apart, and chords that part others."""

from tautparcel.belts import check_height, height_of_day
from tautparcel.errors import BadChord
from tautparcel.rims import over_belt, over_cap, spot_of
from tautparcel.stripes import checked_chord, ordered_chord, period_rim, stripes_through


class Parting:
    """A chord of the top, and its unlike stripes at two heights."""
    def __init__(self, chord, first, second):
        self.chord = chord
        self.first = first
        self.second = second

    def __eq__(self, other):
        return (
            isinstance(other, Parting) and self.chord == other.chord and self.first == other.first
            and self.second == other.second
        )


def units_over_cap(rim, cap):
    """Returns (gait, number) to which the unit from each number to the next goes over a cap, for both gaits."""
    tables = []
    for gait in range(2):
        table = []
        for unit in range(rim.length * rim.weights[gait]):
            to_gait, middle, _ = over_cap(rim, cap, gait, 2 * unit + 1, 2)
            table.append((to_gait, middle // 2))
        tables.append(table)
    return tables


def unit_after(rim, caps, height, gait, unit):
    """Returns the (gait, number) of the unit in which rays that come up onto the top in a unit come up next."""
    gait, unit = caps[0][gait][unit]
    gait, unit = caps[1][gait][over_belt(rim, height, 0, gait, unit, 1)]
    return (gait, over_belt(rim, height, 1, gait, unit, 1))


def units_together(rim, caps, height):
    """Returns for each unit, of "p" and then of "q", the least unit over which the same ribbons come up.

    All lines of a unit go over the same units, so two heights are alike exactly if this is the same at both.
    """
    firsts = {}
    for gait in range(2):
        for unit in range(rim.length * rim.weights[gait]):
            at = (gait, unit)
            while at not in firsts:
                firsts[at] = (gait, unit)
                at = unit_after(rim, caps, height, at[0], at[1])
    return tuple([firsts[key] for key in sorted(firsts)])


def parting_unit(rim, one, other):
    """Returns the first unit whose lines have unlike stripes at two heights, or None if they are alike."""
    caps = [units_over_cap(rim, cap) for cap in range(2)]
    firsts, seconds = [units_together(rim, caps, height) for height in (one, other)]
    units = [(gait, unit) for gait in range(2) for unit in range(rim.length * rim.weights[gait])]
    unlike = [unit for unit, first, second in zip(units, firsts, seconds) if first != second]
    return unlike[0] if unlike else None


def checked_heights(base, slope, one, other):
    """Returns the rim of a base and a slope; raises what parting_chord raises."""
    rim = period_rim(base, slope)
    check_height(one)
    check_height(other)
    return rim


def parting_chord(base, slope, one, other):
    """Returns a chord of the top with unlike stripes at two heights, or None if these are alike."""
    rim = checked_heights(base, slope, one, other)
    found = parting_unit(rim, one, other)
    if found is None:
        return None
    gait, unit = found
    # A third of the way over a unit no line meets a corner, and no line is its own mirror image.
    number = 3 * unit + 1
    to_gait, to_number, _ = over_cap(rim, 0, gait, number, 3)
    chord = ordered_chord(spot_of(rim, gait, number, 3), spot_of(rim, to_gait, to_number, 3))
    return Parting(chord, stripes_through(rim, one, chord), stripes_through(rim, other, chord))


def parting_fault(base, slope, one, other, told):
    """Judges a result of parting_chord: None, or the first word that applies."""
    rim = checked_heights(base, slope, one, other)
    if told is None:
        return None if parting_unit(rim, one, other) is None else "alike"
    if not isinstance(told, Parting):
        return "parting"
    try:
        chord = checked_chord(rim, told.chord)
    except BadChord:
        return "chord"
    first, second = [stripes_through(rim, height, chord) for height in (one, other)]
    if first is None or second is None:
        return "corner"
    if told.first != first:
        return "first"
    if told.second != second:
        return "second"
    return "same" if first == second else None


def alike_days(base, slope):
    """Returns the lots of days whose heights are alike, ordered by their first days."""
    rim = period_rim(base, slope)
    caps = [units_over_cap(rim, cap) for cap in range(2)]
    lots = {}
    for day in range(rim.days):
        together = units_together(rim, caps, height_of_day(rim.days, day))
        if together not in lots:
            lots[together] = []
        lots[together].append(day)
    return tuple([tuple(days) for days in lots.values()])
