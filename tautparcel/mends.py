"""Choices of edits behind which goals are met, and what spoils them."""

from tautparcel.boxgoals import check_goals, first_unmet, meets_goal
from tautparcel.choices import choices_of, common_indexes, is_part
from tautparcel.edits import check_edits, wound
from tautparcel.errors import BadEdit, NoWinding
from tautparcel.lanes import lanes_of
from tautparcel.ratios import is_sequence

MOST_POOL = 5


class Unmet:
    """Why a choice is not good: an edit that can't be made, or a goal that is not met."""
    def __init__(self, what, index):
        self.what = what
        self.index = index

    def __eq__(self, other):
        return isinstance(other, Unmet) and self.what == other.what and self.index == other.index


class Spoiler:
    """A least choice, an index that spoils it, and what is unmet then."""
    def __init__(self, choice, added, unmet):
        self.choice = choice
        self.added = added
        self.unmet = unmet

    def __eq__(self, other):
        return (
            isinstance(other, Spoiler) and self.choice == other.choice and self.added == other.added
            and self.unmet == other.unmet
        )


class Mends:
    """The least choices, and the choices without a good one as a part, with what is unmet."""
    def __init__(self, least, losses):
        self.least = least
        self.losses = losses

    def __eq__(self, other):
        return isinstance(other, Mends) and self.least == other.least and self.losses == other.losses

    @property
    def needed(self):
        """The indexes that stand in every least choice."""
        return common_indexes(self.least)


def check_pool(pool):
    """Returns a pool as a tuple of edits, or raises BadEdit."""
    if not is_sequence(pool, 1, MOST_POOL):
        raise BadEdit(0, "pool")
    return check_edits(pool)


def unmet_of(winding, pool, choice, goals):
    """Returns the Unmet of a choice of a pool, or None if it is good; the pool and the goals are not checked."""
    try:
        there = wound(winding, [pool[index] for index in choice])
    except NoWinding as wrong:
        return Unmet("edit", choice[wrong.index])
    index = first_unmet(there.box, there.slope, goals)
    return None if index is None else Unmet("goal", index)


def mends_of(winding, pool, goals):
    """Returns the mends of a pool, which is not checked."""
    least = []
    losses = []
    for choice in choices_of(len(pool)):
        if [good for good in least if is_part(good, choice)] == []:
            unmet = unmet_of(winding, pool, choice, goals)
            if unmet is None:
                least.append(choice)
            else:
                losses.append((choice, unmet))
    return Mends(tuple(least), tuple(losses))


def find_mends(winding, pool, goals):
    """Returns all least choices of a pool, and the choices that are lost."""
    pool = check_pool(pool)
    goals = check_goals(goals)
    return mends_of(winding, pool, goals)


def find_spoilers(winding, pool, goals):
    """Returns for each least choice the indexes of the pool that spoil it."""
    pool = check_pool(pool)
    goals = check_goals(goals)
    spoilers = []
    for choice in mends_of(winding, pool, goals).least:
        for added in range(len(pool)):
            if added not in choice:
                unmet = unmet_of(winding, pool, tuple(sorted([*choice, added])), goals)
                if unmet is not None:
                    spoilers.append(Spoiler(choice, added, unmet))
    return tuple(spoilers)


def goals_behind(winding, pool, choice, goals):
    """Returns which goals are met behind a choice, or None if it can't be made."""
    try:
        there = wound(winding, [pool[index] for index in choice])
    except NoWinding:
        return None
    lanes = lanes_of(there.box, there.slope)
    return [meets_goal(lanes, goal) for goal in goals]


def sure_goals(winding, pool, goals):
    """Returns for each goal whether it is met behind every choice that can be made, behind none, or both."""
    pool = check_pool(pool)
    goals = check_goals(goals)
    rows = [goals_behind(winding, pool, choice, goals) for choice in choices_of(len(pool))]
    words = []
    for index in range(len(goals)):
        met = [row[index] for row in rows if row is not None]
        if False not in met:
            words.append("always")
        else:
            words.append("both" if True in met else "never")
    return tuple(words)
