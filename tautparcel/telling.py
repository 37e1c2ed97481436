"""Which few chords of stripes tell the days as well as all of them."""

from tautparcel.belts import height_of_day
from tautparcel.choices import choices_of, common_indexes, is_part, without_one
from tautparcel.errors import TooMany
from tautparcel.fitting import chords_with
from tautparcel.ratios import is_whole
from tautparcel.rims import Rim

MOST_TOLD = 8


class Telling:
    """The days that all chords of stripes leave, and the least lots of chords that leave just these."""
    def __init__(self, days, lots):
        self.days = days
        self.lots = lots

    def __eq__(self, other):
        return isinstance(other, Telling) and self.days == other.days and self.lots == other.lots

    @property
    def needed(self):
        """The indexes that stand in all lots."""
        return common_indexes(self.lots)


def ribbons_by_chords(stripes, rim, height):
    """Returns for each chord the index of the first one on its ribbon at a height, or None if it meets a corner."""
    chords = stripes.chords
    numbers = [None] * len(chords)
    for index, chord in enumerate(chords):
        if numbers[index] is None:
            found = chords_with(rim, height, chord)
            for other in range(index, len(chords)):
                if chords[other] in found:
                    numbers[other] = index
    return numbers


def days_left(rows, lot):
    """Returns the days at which all chords of a lot are on one ribbon; the rows tell the ribbons of each day."""
    days = []
    for day, numbers in enumerate(rows):
        first = numbers[lot[0]]
        if first is not None and [index for index in lot if numbers[index] != first] == []:
            days.append(day)
    return tuple(days)


def lots_by_days(stripes):
    """Returns a dict of the days that each lot of chords leaves, the shorter lots first; raises TooMany."""
    if len(stripes) > MOST_TOLD:
        raise TooMany(MOST_TOLD)
    rim = Rim(stripes.base, stripes.slope)
    rows = [ribbons_by_chords(stripes, rim, height_of_day(rim.days, day)) for day in range(rim.days)]
    return {lot: days_left(rows, lot) for lot in choices_of(len(stripes))[1:]}


def whole_days(stripes, left):
    """Returns the days that all chords together leave."""
    return left[tuple(range(len(stripes)))]


def is_least(left, lot, days):
    """Tells whether no lot with one chord less than a lot leaves the days."""
    return [less for less in without_one(lot) if less in left and left[less] == days] == []


def telling_lots(stripes):
    """Returns the days that all chords leave, and all least lots that leave the same."""
    left = lots_by_days(stripes)
    days = whole_days(stripes, left)
    return Telling(days, tuple([lot for lot in left if left[lot] == days and is_least(left, lot, days)]))


def is_telling(told, left):
    """Tells whether a thing is a Telling whose lots are such, in order, none twice."""
    if not isinstance(told, Telling) or not isinstance(told.lots, tuple):
        return False
    for lot in told.lots:
        if not isinstance(lot, tuple) or [index for index in lot if not is_whole(index)] or lot not in left:
            return False
    order = [(len(lot), lot) for lot in told.lots]
    return [place for place in range(1, len(order)) if order[place - 1] >= order[place]] == []


def telling_fault(stripes, told):
    """Judges a Telling of stripes: None, or the first word that applies."""
    left = lots_by_days(stripes)
    days = whole_days(stripes, left)
    if not is_telling(told, left):
        return "telling"
    if told.days != days or [day for day in told.days if not is_whole(day)]:
        return "days"
    if [lot for lot in told.lots if left[lot] != days]:
        return "leaves"
    if [lot for lot in told.lots if not is_least(left, lot, days)]:
        return "least"
    right = [lot for lot in left if left[lot] == days]
    if [lot for lot in right if [part for part in told.lots if is_part(part, lot)] == []]:
        return "lacking"
    return None
