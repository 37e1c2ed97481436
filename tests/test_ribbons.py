import unittest

from helping import BOXES, NO_NUMBERS, SLOPES, as_lists, entrances, only_tuples, place, point, ratio, refused, traced
from tautparcel.boxes import Box
from tautparcel.errors import BadDirection, BadFace, BadIndex, BadPlace, BadStart, TooMany
from tautparcel.rays import MeetsCorner, corner_ahead, most_passes
from tautparcel.ratios import sum_of
from tautparcel.ribbons import (
    Ribbon, back_ribbon, chords_on, least_ribbon, length_square, ribbon_begun, ribbon_fault, ribbon_of, same_ribbon,
)
from tautparcel.slopes import slope_of
from tautparcel.steps import Pass, back_pass, whole_pass

BOX = Box((2, 3, 5))
CUBE = Box((1, 1, 1))


KNOWN = []


def some_ribbons():
    if not KNOWN:
        for box in BOXES:
            for slope in SLOPES + [(1, 0)]:
                for where, face, direction in entrances(box, slope, 2)[1::53]:
                    try:
                        found = ribbon_of(box, where, face, direction)
                    except BadStart:
                        continue
                    if isinstance(found, Ribbon):
                        KNOWN.append((box, slope, (where, face, direction), found))
    return KNOWN


class Ribbons(unittest.TestCase):
    def test_cube(self):
        ribbon = ribbon_of(CUBE, as_lists(place("3/4", "1/4", 1)), 5, [1, 1, 0])
        self.assertEqual(ribbon.faces, (5, 1, 3, 4, 0, 2))
        self.assertEqual(ribbon.slope, (1, 1))
        self.assertEqual(ribbon.length, 3)
        self.assertEqual(len(ribbon), 6)
        self.assertEqual(list(ribbon), list(ribbon.passes))
        self.assertEqual(ribbon.passes[0], Pass(5, (1, 1, 0), place("1/2", 0, 1), place(1, "1/2", 1), (1, 2)))
        self.assertIs(ribbon.box, ribbon.box)
        self.assertEqual(list(vars(ribbon)), ["box", "slope", "passes", "length", "faces"])
        self.assertIs(type(ribbon.length), int)
        self.assertTrue(only_tuples(ribbon.passes))
        self.assertTrue(only_tuples(ribbon.passes[3].start))

    def test_against_vectors(self):
        many = 0
        for box, slope, (where, face, direction), ribbon in some_ribbons():
            first = whole_pass(box, where, face, direction)
            self.assertEqual(ribbon.passes[0], first)
            rows = traced(box.sides, point(first.start), face, direction, len(ribbon) + 1)
            told = [(p.face, p.direction, point(p.start), point(p.end), p.length) for p in ribbon]
            self.assertEqual(told, [(*row[:4], ratio(row[4])) for row in rows[:-1]])
            self.assertEqual(rows[-1][:4], told[0][:4])
            self.assertEqual((ribbon.length, 1), ratio(sum(row[4] for row in rows[:-1])))
            self.assertEqual(ribbon.slope, slope)
            self.assertLessEqual(len(ribbon), most_passes(box, slope))
            self.assertIsNone(ribbon_fault(box, ribbon.passes))
            many += 1
        self.assertGreater(many, 150)

    def test_no_pass_twice(self):
        for box, slope, start, ribbon in some_ribbons():
            keys = [(p.face, p.direction, p.start) for p in ribbon]
            self.assertEqual(len(set(keys)), len(keys))
            self.assertEqual([p for p in map(back_pass, ribbon) if (p.face, p.direction, p.start) in keys], [])

    def test_corner(self):
        self.assertEqual(ribbon_of(BOX, place(1, "3/2", 5), 5, (2, 3, 0)), MeetsCorner(7, (1, 2), 1))
        for where, face, direction in entrances(BOX, (2, 1), 2):
            try:
                found = ribbon_of(BOX, where, face, direction)
            except BadStart:
                continue
            ahead = corner_ahead(BOX, where, face, direction)
            self.assertEqual(ahead is None, isinstance(found, Ribbon))
            if ahead is not None:
                self.assertEqual(found, ahead)

    def test_errors(self):
        refused(self, BadPlace, {"place": 1}, ribbon_of, BOX, 1, 6, None)
        refused(self, BadFace, {"face": True}, ribbon_of, BOX, place(0, 0, 0), True, None)
        refused(self, BadDirection, {"what": "axis"}, ribbon_of, BOX, place(0, 0, 0), 5, (0, 1, 1))
        refused(self, BadStart, {"what": "face"}, ribbon_of, BOX, place(0, 0, 0), 5, (1, 1, 0))
        refused(self, BadStart, {"what": "corner"}, ribbon_of, BOX, place(0, 0, 0), 4, (1, 1, 0))
        refused(self, BadStart, {"what": "corner"}, ribbon_of, BOX, place(0, 0, 0), 4, (0, 1, 0))
        refused(self, BadStart, {"what": "corner"}, ribbon_of, BOX, place(0, 0, 0), 4, (-1, 1, 0))
        refused(self, BadStart, {"what": "along"}, ribbon_of, BOX, place(0, 1, 0), 4, (0, 1, 0))
        refused(self, BadStart, {"what": "out"}, ribbon_of, BOX, place(0, 1, 0), 4, (-1, 1000, 0))
        refused(self, TooMany, {"most": 20000}, ribbon_of, BOX, place(0, 1, 0), 4, (500, 1, 0))
        refused(self, BadStart, {"what": "corner"}, ribbon_of, BOX, place(0, 0, 0), 4, (500, 1, 0))

    def test_bands_and_steep_ones(self):
        ribbon = ribbon_of(BOX, place(0, "1/2", "1/3"), 0, (0, 1, 0))
        self.assertEqual((ribbon.slope, ribbon.length, ribbon.faces), ((1, 0), 10, (0, 3, 1, 2)))
        ribbon = ribbon_of(CUBE, place(0, "1/2", "1/3"), 0, (0, 400, 17))
        self.assertEqual(ribbon.slope, (17, 400))
        self.assertEqual((ribbon.length, 1), sum_of([p.length for p in ribbon]))
        self.assertEqual(slope_of(0, (0, 400, 17)), ribbon.slope)
        self.assertIsNone(ribbon_fault(CUBE, ribbon.passes))

    def test_great_bottoms(self):
        where = ((1, 10 ** 12), (1, 10 ** 12 - 1), (0, 1))
        ribbon = ribbon_of(BOX, where, 4, (3, 2, 0))
        again = whole_pass(BOX, where, 4, (3, 2, 0))
        self.assertEqual(ribbon.passes[0], again)

    def test_equal(self):
        ribbon = ribbon_of(CUBE, place("3/4", "1/4", 1), 5, (1, 1, 0))
        other = ribbon_of(Box([1, 1, 1]), place("5/8", "1/8", 1), 5, (1, 1, 0))
        self.assertTrue(ribbon == other)
        self.assertTrue(ribbon != ribbon_of(CUBE, place("1/8", 0, 1), 5, (1, 1, 0)))
        self.assertTrue(ribbon != ribbon_begun(ribbon, 1))
        self.assertTrue(ribbon != Ribbon(ribbon.box, ribbon.slope, ribbon.passes, 4))
        self.assertTrue(ribbon != Ribbon(ribbon.box, (1, 2), ribbon.passes, 3))
        self.assertTrue(ribbon != Ribbon(BOX, (1, 1), ribbon.passes, 3))
        for thing in (None, 3, ribbon.passes):
            self.assertIs(ribbon == thing, False)
            self.assertIs(ribbon != thing, True)


class Beginnings(unittest.TestCase):
    def test_begun(self):
        ribbon = ribbon_of(BOX, place("1/3", 1, 5), 5, (1, 2, 0))
        many = len(ribbon)
        self.assertEqual(ribbon_begun(ribbon, 0), ribbon)
        last = ribbon_begun(ribbon, many - 1)
        self.assertEqual(last.passes, (ribbon.passes[-1], *ribbon.passes[:-1]))
        self.assertEqual(ribbon_begun(last, 1), ribbon)
        self.assertEqual((last.length, last.slope, last.box), (ribbon.length, ribbon.slope, ribbon.box))
        self.assertEqual(last.faces, tuple(p.face for p in last.passes))
        for index in NO_NUMBERS + [-1, many]:
            refused(self, BadIndex, {"index": index}, ribbon_begun, ribbon, index)

    def test_back(self):
        for box, slope, start, ribbon in some_ribbons():
            back = back_ribbon(ribbon)
            self.assertEqual(back.passes[0], back_pass(ribbon.passes[0]))
            self.assertEqual(back.passes[1], back_pass(ribbon.passes[-1]))
            self.assertEqual(back.passes[-1], back_pass(ribbon.passes[1]))
            self.assertEqual(back_ribbon(back), ribbon)
            self.assertIsNone(ribbon_fault(box, back.passes))
            first = back.passes[0]
            self.assertEqual(ribbon_of(box, first.start, first.face, first.direction), back)

    def test_least(self):
        for box, slope, start, ribbon in some_ribbons():
            back = back_ribbon(ribbon)
            keys = [(p.face, p.direction, point(p.start)) for p in (*ribbon, *back)]
            least = least_ribbon(ribbon)
            first = least.passes[0]
            self.assertEqual((first.face, first.direction, point(first.start)), min(keys))
            self.assertEqual(least_ribbon(ribbon_begun(back, len(back) - 1)), least)
            self.assertEqual(least_ribbon(least), least)
            self.assertTrue(same_ribbon(ribbon, ribbon_begun(back, len(back) // 2)))

    def test_starts_are_compared_as_numbers(self):
        first = ribbon_of(Box((1, 3, 9)), place(0, "1/10", "1/2"), 0, (0, 1, 0))
        self.assertEqual(least_ribbon(first).passes[0].direction, (0, -1, 0))
        ribbon = ribbon_of(Box((3, 1, 2)), place(0, "1/3", "7/5"), 0, (0, 1, 2))
        starts = [p.start for p in (*ribbon, *back_ribbon(ribbon)) if p.face == 0]
        directions = [p.direction for p in (*ribbon, *back_ribbon(ribbon)) if p.face == 0]
        told = min((d, point(s)) for d, s in zip(directions, starts))
        self.assertEqual(point(least_ribbon(ribbon).passes[0].start), told[1])

    def test_same(self):
        ribbon = ribbon_of(CUBE, place("3/4", "1/4", 1), 5, (1, 1, 0))
        self.assertIs(same_ribbon(ribbon, back_ribbon(ribbon)), True)
        self.assertIs(same_ribbon(ribbon, ribbon_of(CUBE, place("1/8", 0, 1), 5, (1, 1, 0))), False)
        self.assertIs(same_ribbon(ribbon, ribbon_of(Box((1, 1, 2)), place("3/4", "1/4", 2), 5, (1, 1, 0))), False)


class Squares(unittest.TestCase):
    def test_length_square(self):
        self.assertEqual(length_square(ribbon_of(CUBE, place("3/4", "1/4", 1), 5, (1, 1, 0))), 18)
        self.assertEqual(length_square(ribbon_of(BOX, place(0, "1/2", "1/3"), 0, (0, 1, 0))), 100)
        ribbon = ribbon_of(BOX, place("1/3", 1, 5), 5, (1, 2, 0))
        self.assertEqual(length_square(ribbon), 5 * ribbon.length ** 2)

    def test_chords(self):
        ribbon = ribbon_of(CUBE, place("3/4", "1/4", 1), 5, (1, 1, 0))
        self.assertEqual(chords_on(ribbon, 5), ((place("1/2", 0, 1), place(1, "1/2", 1)),))
        self.assertEqual(chords_on(back_ribbon(ribbon), 5), ((place("1/2", 0, 1), place(1, "1/2", 1)),))
        band = ribbon_of(BOX, place(0, "1/2", "1/3"), 0, (0, 1, 0))
        self.assertEqual(chords_on(band, 5), ())
        self.assertEqual(chords_on(band, 1), ((place(2, 0, "1/3"), place(2, 3, "1/3")),))
        for face in NO_NUMBERS + [6]:
            refused(self, BadFace, {"face": face}, chords_on, ribbon, face)

    def test_chords_ascend_as_numbers(self):
        for box, slope, start, ribbon in some_ribbons():
            for face in range(6):
                chords = chords_on(ribbon, face)
                told = sorted(tuple(sorted((point(p.start), point(p.end)))) for p in ribbon if p.face == face)
                self.assertEqual([(point(low), point(high)) for low, high in chords], told)
                self.assertTrue(only_tuples(chords))


class Faults(unittest.TestCase):
    def setUp(self):
        self.ribbon = ribbon_of(BOX, place("1/3", 1, 5), 5, (1, 2, 0))
        self.passes = list(self.ribbon.passes)

    def with_pass(self, index, **changes):
        values = {**vars(self.passes[index]), **changes}
        passes = list(self.passes)
        passes[index] = Pass(**values)
        return passes

    def test_none(self):
        for index in range(len(self.ribbon)):
            self.assertIsNone(ribbon_fault(BOX, ribbon_begun(self.ribbon, index).passes))
        self.assertIsNone(ribbon_fault(BOX, self.passes))

    def test_many(self):
        self.assertEqual(ribbon_fault(BOX, []), (0, "many"))
        self.assertEqual(ribbon_fault(BOX, ()), (0, "many"))

    def test_pass(self):
        good = self.passes[0]
        wrong = [
            {"end": good.start}, {"length": (1, 7)}, {"face": 9}, {"face": None}, {"direction": (0, 0, 0)},
            {"direction": None}, {"start": place(1, 1, 1)}, {"start": 7}, {"end": None}, {"length": None},
            {"length": 1},
            {"direction": (-1, 2, 0)}, {"start": list(good.start)}, {"direction": list(good.direction)},
            {"length": list(good.length)}, {"end": good.end + good.end}, {"direction": (10001, 2, 0)},
        ]
        for changes in wrong:
            self.assertEqual(ribbon_fault(BOX, self.with_pass(0, **changes)), (0, "pass"), changes)
        inside = Pass(5, (1, 2, 0), place("1/3", 1, 5), good.end, (1, 1))
        self.assertEqual(ribbon_fault(BOX, [inside, *self.passes[1:]]), (0, "pass"))
        elsewhere = Pass(5, (1, 2, 0), place("1/3", 1, 3), good.end, (1, 1))
        self.assertEqual(ribbon_fault(BOX, [elsewhere, *self.passes[1:]]), (0, "pass"))

    def test_no_pass_at_all(self):
        self.assertEqual(ribbon_fault(BOX, [None]), (0, "pass"))
        self.assertEqual(ribbon_fault(BOX, [*self.passes[:2], 5]), (1, "next"))

    def test_true_is_no_number(self):
        passes = [Pass(0, (0, 1, 0), place(0, 0, "1/2"), place(0, 1, "1/2"), (1, 1))]
        passes.append(Pass(3, (1, 0, 0), place(0, 1, "1/2"), place(1, 1, "1/2"), (1, 1)))
        passes.append(Pass(1, (0, -1, 0), place(1, 1, "1/2"), place(1, 0, "1/2"), (1, 1)))
        passes.append(Pass(2, (-1, 0, 0), place(1, 0, "1/2"), place(0, 0, "1/2"), (1, 1)))
        self.assertIsNone(ribbon_fault(CUBE, passes))
        half = (1, 2)
        for wrong in (
            Pass(False, (0, 1, 0), place(0, 0, "1/2"), place(0, 1, "1/2"), (1, 1)),
            Pass(0, (0, True, 0), place(0, 0, "1/2"), place(0, 1, "1/2"), (1, 1)),
            Pass(0, (False, 1, 0), place(0, 0, "1/2"), place(0, 1, "1/2"), (1, 1)),
            Pass(0, (0, 1, 0), ((False, 1), (0, 1), half), place(0, 1, "1/2"), (1, 1)),
            Pass(0, (0, 1, 0), place(0, 0, "1/2"), ((0, 1), (1, True), half), (1, 1)),
            Pass(0, (0, 1, 0), place(0, 0, "1/2"), ((0, 1), (True, 1), half), (1, 1)),
            Pass(0, (0, 1, 0), place(0, 0, "1/2"), place(0, 1, "1/2"), (True, 1)),
            Pass(0, (0, 1, 0), place(0, 0, "1/2"), place(0, 1, "1/2"), (1, True)),
        ):
            self.assertEqual(ribbon_fault(CUBE, [wrong, *passes[1:]]), (0, "pass"))

    def test_great_bottoms_are_refused(self):
        ribbon = ribbon_of(BOX, ((1, 10 ** 12), (1, 10 ** 12 - 1), (0, 1)), 4, (3, 2, 0))
        self.assertEqual(ribbon_fault(BOX, ribbon.passes), (0, "pass"))

    def test_corner(self):
        ending = whole_pass(BOX, place(2, 1, 2), 1, (0, 1, -1))
        starting = whole_pass(BOX, place(2, 3, 0), 1, (0, -1, 1))
        self.assertEqual(ribbon_fault(BOX, [ending]), (0, "corner"))
        self.assertEqual(ribbon_fault(BOX, [starting]), (0, "corner"))
        # An earlier pass that is not followed by it is told first.
        self.assertEqual(ribbon_fault(BOX, [self.passes[0], ending]), (0, "next"))

    def test_twice(self):
        self.assertEqual(ribbon_fault(BOX, self.passes * 2), (len(self.passes), "twice"))
        self.assertEqual(ribbon_fault(BOX, self.passes + self.passes[:1]), (len(self.passes), "twice"))

    def test_next(self):
        self.assertEqual(ribbon_fault(BOX, self.passes[:-1]), (len(self.passes) - 2, "next"))
        self.assertEqual(ribbon_fault(BOX, self.passes[:1]), (0, "next"))
        self.assertEqual(ribbon_fault(BOX, self.passes[::-1]), (0, "next"))
        swapped = [self.passes[0], self.passes[2], self.passes[1], *self.passes[3:]]
        self.assertEqual(ribbon_fault(BOX, swapped), (0, "next"))
        wrong = self.with_pass(2, direction=None)
        self.assertEqual(ribbon_fault(BOX, wrong), (1, "next"))
        self.assertEqual(ribbon_fault(BOX, self.with_pass(2, length=(9, 1))), (2, "pass"))


if __name__ == "__main__":
    unittest.main()
