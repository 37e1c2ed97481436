"""Windings, a box and a slope each, and edits that change them."""

from tautparcel.along import check_how, led_box, led_slope
from tautparcel.boxes import LONGEST_SIDE, Box
from tautparcel.errors import BadEdit, BadHow, BadSlope, NoWinding
from tautparcel.ratios import is_sequence, is_whole
from tautparcel.slopes import check_slope

MOST_EDITS = 100
LENGTHS = (("side", 3), ("scale", 2), ("slope", 3), ("turn", 2))


class Winding:
    """A box and a slope."""
    def __init__(self, box, slope):
        self.box = box
        self.slope = slope

    def __eq__(self, other):
        return isinstance(other, Winding) and self.box == other.box and self.slope == other.slope


def check_edits(edits):
    """Returns edits as a tuple of tuples, or raises BadEdit."""
    if not is_sequence(edits, 0, MOST_EDITS):
        raise BadEdit(0, "many")
    return tuple([checked_edit(edit, index) for index, edit in enumerate(edits)])


def checked_edit(edit, index):
    """Returns an edit as a tuple, or raises BadEdit with its index."""
    if not is_sequence(edit, 2, 3) or (edit[0], len(edit)) not in LENGTHS:
        raise BadEdit(index, "edit")
    word = edit[0]
    if word == "side":
        if not is_whole(edit[1], 0, 2):
            raise BadEdit(index, "axis")
        if not is_whole(edit[2], 1 - LONGEST_SIDE, LONGEST_SIDE - 1) or edit[2] == 0:
            raise BadEdit(index, "by")
        return tuple(edit)
    if word == "scale":
        if not is_whole(edit[1], 2, LONGEST_SIDE):
            raise BadEdit(index, "size")
        return tuple(edit)
    try:
        if word == "slope":
            return (word, *check_slope(tuple(edit[1:])))
        return (word, check_how(edit[1]))
    except (BadSlope, BadHow):
        raise BadEdit(index, word)


def edited(winding, edit):
    """Returns the winding behind an edit, which is not checked, or None if some side would not be let."""
    box, slope = winding.box, tuple(winding.slope)
    if edit[0] == "slope":
        return Winding(box, edit[1:])
    if edit[0] == "turn":
        return Winding(led_box(box, edit[1]), led_slope(slope, edit[1]))
    sides = list(box.sides)
    if edit[0] == "side":
        sides[edit[1]] += edit[2]
    else:
        sides = [side * edit[1] for side in sides]
    if min(sides) < 1 or max(sides) > LONGEST_SIDE:
        return None
    return Winding(Box(tuple(sides)), slope)


def wound(winding, edits):
    """Returns the winding behind edits, which are not checked; raises NoWinding."""
    at = Winding(winding.box, tuple(winding.slope))
    for index, edit in enumerate(edits):
        at = edited(at, edit)
        if at is None:
            raise NoWinding(index)
    return at


def winding_after(winding, edits):
    """Returns the winding behind edits, made one after another."""
    return wound(winding, check_edits(edits))
