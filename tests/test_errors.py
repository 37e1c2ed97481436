import inspect
import re
import unittest

from tautparcel import errors
from tautparcel.errors import ParcelError

LISTED = """BadRatio(what), BadBox(index), BadCorner(corner), BadFace(face), BadEdge(edge), NoEdge(face, beside),
BadPlace(place), BadSlope(slope), BadDirection(what), NotOver(face, beside), BadHow(how), BadSize(size), BadText(text),
TooMany(most), BadStart(what), AtCorner(corner), BadCount(count), BadIndex(index), BadFaceRow(index), BadPoint(point),
BadOffset(offset), BadMost(most), BadStrip(what), NoLane(thing), OtherLane(ribbon), NotAtCorner(corner, face),
BadSide(side), BadNumber(number), OtherBox(sides), OtherSlope(slope), SameRibbon(length), BadLot(index, what),
CrossesItself(place), NotCrossed(place), OnRibbon(place, number), BadLaneLot(index), BadLength(length), BadNth(number),
BadBeat(index, what), BadWalk(what), BadTime(time), BadAxis(axis), BadLevel(level), BadSteep(steep), BadBase(index),
BadHeight(height), BadSpot(spot), BadCap(cap), BadGait(gait), BadMark(mark), BadDay(day), BadGoal(goal),
BadChord(what), BadStripes(index, what), BadFact(what), NotFitting(height), NoFitting(low, high), BadGoals(index),
BadEdit(index, what), NoWinding(index), NoEdit(number)"""


class Errors(unittest.TestCase):
    def test_all_are_listed_and_stand_directly_under_parcel_error(self):
        self.assertEqual(ParcelError.__bases__, (ValueError,))
        listed = re.findall(r"(\w+)\(([^)]*)\)", LISTED)
        self.assertEqual(len(listed), 61)
        for name, told in listed:
            self.assertEqual(getattr(errors, name).__bases__, (ParcelError,), name)
        here = [name for name, thing in vars(errors).items() if inspect.isclass(thing)]
        self.assertEqual(sorted(here), sorted([name for name, _ in listed] + ["ParcelError"]))

    def test_attributes_by_name_and_in_order(self):
        for name, told in re.findall(r"(\w+)\(([^)]*)\)", LISTED):
            words = told.split(", ")
            values = [object() for _ in words]
            made = getattr(errors, name)(*values)
            self.assertEqual(list(vars(made).items()), list(zip(words, values)), name)
            named = getattr(errors, name)(**dict(zip(words, values)))
            self.assertEqual(vars(named), vars(made))

    def test_they_can_be_shown(self):
        self.assertIsInstance(str(errors.BadFace([9])), str)
        self.assertIsInstance(str(errors.BadLot(1, "same")), str)


if __name__ == "__main__":
    unittest.main()
