import unittest

from helping import BOXES, NO_NUMBERS, SLOPES, as_lists, entrances, only_tuples, place, point, ratio, refused, traced
from tautparcel.boxes import Box
from tautparcel.errors import AtCorner, BadDirection, BadFace, BadPlace, BadStart
from tautparcel.steps import (
    Pass, back_pass, check_entrance, crossing_lengths, next_start, pass_after, pass_before, pass_crossing, pass_from,
    whole_pass,
)

BOX = Box((2, 3, 5))
CALLS = (check_entrance, pass_from, whole_pass)


def told(taken):
    return (taken.face, taken.direction, point(taken.start), point(taken.end), taken.length)


class Entrances(unittest.TestCase):
    def test_check(self):
        good = [
            (place("1/2", 1, 5), 5, (2, 3, 0)), (place("1/2", 1, 5), 5, (1, 0, 0)), (place(0, 1, 5), 5, (1, 1, 0)),
            (place(0, 1, 5), 0, (0, 1, -1)), (place(0, 1, 5), 5, (1, 0, 0)), (place(0, 0, 0), 4, (1, 1, 0)),
            (place(2, 3, 5), 1, (0, -12, -17)), (place("1/2", 1, 5), 5, (10000, -9999, 0)),
        ]
        for where, face, direction in good:
            self.assertEqual(check_entrance(BOX, where, face, direction), (where, face, direction))
            told = check_entrance(BOX, as_lists(where), face, list(direction))
            self.assertEqual(told, (where, face, direction))
            self.assertTrue(only_tuples(told))

    def test_order(self):
        for call in CALLS:
            refused(self, BadPlace, {"place": None}, call, BOX, None, 6, None)
            refused(self, BadPlace, {"place": place(1, 1, 1)}, call, BOX, place(1, 1, 1), 6, None)
            for face in NO_NUMBERS + [6]:
                refused(self, BadFace, {"face": face}, call, BOX, place(0, 1, 1), face, None)
            refused(self, BadDirection, {"what": "kind"}, call, BOX, place(0, 1, 1), 5, None)
            refused(self, BadDirection, {"what": "axis"}, call, BOX, place(0, 1, 1), 5, (0, 0, 1))
            refused(self, BadDirection, {"what": "both"}, call, BOX, place(0, 1, 1), 5, (0, 0, 0))
            refused(self, BadDirection, {"what": "common"}, call, BOX, place(0, 1, 1), 5, (2, 2, 0))
            refused(self, BadStart, {"what": "face"}, call, BOX, place(0, 1, 1), 5, (1, 1, 0))

    def test_start(self):
        for call in CALLS:
            for where, direction in [
                (place(0, 1, 5), (0, 1, 0)), (place(2, 1, 5), (0, -1, 0)), (place(1, 3, 5), (1, 0, 0)),
                (place(0, 0, 5), (1, 0, 0)), (place(0, 0, 5), (0, -1, 0)), (place(2, 0, 5), (1, 0, 0)),
            ]:
                refused(self, BadStart, {"what": "along"}, call, BOX, where, 5, direction)
            for where, direction in [
                (place(0, 1, 5), (-1, 1, 0)), (place(2, 1, 5), (1, 0, 0)), (place(1, 3, 5), (1, 1, 0)),
                (place(0, 0, 5), (1, -1, 0)), (place(0, 0, 5), (-1, 1, 0)), (place(2, 3, 5), (1, 1, 0)),
            ]:
                refused(self, BadStart, {"what": "out"}, call, BOX, where, 5, direction)


class Passes(unittest.TestCase):
    def test_pass_from(self):
        taken = pass_from(BOX, place("1/2", 1, 5), 5, [1, 2, 0])
        self.assertEqual(taken, Pass(5, (1, 2, 0), place("1/2", 1, 5), place("3/2", 3, 5), (1, 1)))
        self.assertEqual(vars(taken), {
            "face": 5, "direction": (1, 2, 0), "start": place("1/2", 1, 5), "end": place("3/2", 3, 5), "length": (1, 1),
        })
        taken = pass_from(BOX, as_lists(place(2, 0, 5)), 1, [0, 1, -1])
        self.assertEqual(taken, Pass(1, (0, 1, -1), place(2, 0, 5), place(2, 3, 2), (3, 1)))
        self.assertTrue(only_tuples(tuple(vars(taken).values())))
        self.assertEqual(pass_from(BOX, place(0, 0, 5), 5, (2, 3, 0)).end, place(2, 3, 5))
        self.assertEqual(pass_from(BOX, place("1/3", 0, 5), 5, (0, 1, 0)).length, (3, 1))

    def test_against_vectors(self):
        for box in BOXES:
            for slope in SLOPES[:4] + [(1, 0)]:
                for where, face, direction in entrances(box, slope, 2)[::3]:
                    taken = pass_from(box, where, face, direction)
                    (_, _, start, end, length), = traced(box.sides, point(where), face, direction, 1)
                    self.assertEqual((point(taken.start), point(taken.end)), (start, end))
                    self.assertEqual(taken.length, ratio(length))
                    whole = whole_pass(box, where, face, direction)
                    self.assertEqual(whole.end, taken.end)
                    back = pass_from(box, whole.end, face, tuple(-step for step in direction))
                    self.assertEqual(back, back_pass(whole))

    def test_back_pass(self):
        taken = pass_from(BOX, place("1/2", 1, 5), 5, (1, 2, 0))
        self.assertEqual(back_pass(taken), Pass(5, (-1, -2, 0), place("3/2", 3, 5), place("1/2", 1, 5), (1, 1)))
        self.assertEqual(back_pass(back_pass(taken)), taken)

    def test_whole_pass(self):
        taken = whole_pass(BOX, place("1/2", 2, 5), 5, (1, 2, 0))
        self.assertEqual(taken, Pass(5, (1, 2, 0), place(0, 1, 5), place(1, 3, 5), (1, 1)))
        taken = whole_pass(BOX, place(1, "3/2", 5), 5, (2, 3, 0))
        self.assertEqual(taken, Pass(5, (2, 3, 0), place(0, 0, 5), place(2, 3, 5), (1, 1)))
        self.assertEqual(whole_pass(BOX, place(0, 1, 5), 5, [1, 2, 0]), pass_from(BOX, place(0, 1, 5), 5, (1, 2, 0)))

    def test_it_is_a_result(self):
        made = Pass([1], "x", None, [2], 7)
        self.assertEqual(list(vars(made)), ["face", "direction", "start", "end", "length"])
        self.assertEqual(made.start, None)
        self.assertEqual(made, Pass([1], "x", None, [2], 7))
        self.assertTrue(made != Pass([1], "x", None, [2], 8))
        for index in range(5):
            values = [[1], "x", None, [2], 7]
            values[index] = "other"
            self.assertTrue(made != Pass(*values))
        for other in (None, 5, ([1], "x", None, [2], 7)):
            self.assertIs(made == other, False)
            self.assertIs(made != other, True)


class OverEdges(unittest.TestCase):
    def test_next_start(self):
        taken = pass_from(BOX, place("1/2", 1, 5), 5, (1, 2, 0))
        self.assertEqual(next_start(BOX, taken), (place("3/2", 3, 5), 3, (1, 0, -2)))
        self.assertTrue(only_tuples(next_start(BOX, taken)))
        after = pass_after(BOX, taken)
        self.assertEqual(after, Pass(3, (1, 0, -2), place("3/2", 3, 5), place(2, 3, 4), (1, 2)))

    def test_at_corner(self):
        taken = pass_from(BOX, place(0, 0, 5), 5, (2, 3, 0))
        refused(self, AtCorner, {"corner": 7}, next_start, BOX, taken)
        refused(self, AtCorner, {"corner": 7}, pass_after, BOX, taken)
        refused(self, AtCorner, {"corner": 1}, pass_before, BOX, taken)
        taken = pass_from(BOX, place(2, 1, 0), 1, (0, -1, 1))
        self.assertEqual(pass_before(BOX, taken).face, 4)
        refused(self, AtCorner, {"corner": 6}, pass_after, BOX, pass_from(BOX, place(2, 1, 2), 1, (0, 1, -1)))

    def test_bottoms_grow_beyond_what_is_let(self):
        great = 10 ** 12
        taken = pass_from(BOX, ((1, great), (1, 1), (5, 1)), 5, (2, 9, 0))
        for _ in range(9):
            taken = pass_after(BOX, taken)
        self.assertGreater(max(entry[1] for entry in taken.start), great)
        self.assertEqual(pass_after(BOX, pass_before(BOX, taken)), taken)

    def test_they_undo_each_other(self):
        many = 0
        for box in BOXES:
            for slope in SLOPES + [(1, 0)]:
                for where, face, direction in entrances(box, slope, 2)[::5]:
                    taken = whole_pass(box, where, face, direction)
                    try:
                        after, before = pass_after(box, taken), pass_before(box, taken)
                    except AtCorner:
                        continue
                    self.assertEqual(pass_before(box, after), taken)
                    self.assertEqual(pass_after(box, before), taken)
                    self.assertEqual(before.end, taken.start)
                    self.assertEqual(after.start, taken.end)
                    many += 1
        self.assertGreater(many, 1000)

    def test_against_vectors(self):
        for box in BOXES:
            for slope in SLOPES + [(1, 0)]:
                where, face, direction = entrances(box, slope, 2)[11]
                taken = pass_from(box, where, face, direction)
                rows = traced(box.sides, point(where), face, direction, 30)
                for index, (face, direction, start, end, length) in enumerate(rows):
                    self.assertEqual(told(taken), (face, direction, start, end, ratio(length)))
                    if index + 1 < len(rows):
                        taken = pass_after(box, taken)


class Crossings(unittest.TestCase):
    def setUp(self):
        self.taken = pass_from(BOX, place(0, 1, 5), 5, (1, 1, 0))

    def test_cross(self):
        met = pass_from(BOX, place(1, 3, 5), 5, (0, -1, 0))
        self.assertEqual(pass_crossing(self.taken, met), place(1, 2, 5))
        self.assertEqual(crossing_lengths(self.taken, met), ((1, 1), (1, 1)))
        met = pass_from(BOX, place(2, "1/2", 5), 5, (-1, 1, 0))
        self.assertEqual(pass_crossing(self.taken, met), place("3/4", "7/4", 5))
        self.assertEqual(crossing_lengths(self.taken, met), ((3, 4), (5, 4)))
        self.assertEqual(crossing_lengths(met, self.taken), ((5, 4), (3, 4)))
        self.assertTrue(only_tuples(crossing_lengths(met, self.taken)))

    def test_ends_count(self):
        met = pass_from(BOX, place(0, 1, 5), 5, (1, 2, 0))
        self.assertEqual(pass_crossing(self.taken, met), place(0, 1, 5))
        self.assertEqual(crossing_lengths(self.taken, met), ((0, 1), (0, 1)))
        met = pass_from(BOX, place(1, 2, 5), 5, (1, -1, 0))
        self.assertEqual(crossing_lengths(self.taken, met), ((1, 1), (0, 1)))
        met = pass_from(BOX, place("1/2", 3, 5), 5, (-1, -4, 0))
        self.assertEqual(pass_crossing(self.taken, met), place(0, 1, 5))
        self.assertEqual(crossing_lengths(self.taken, met), ((0, 1), (1, 2)))
        met = back_pass(pass_from(BOX, place(0, 1, 5), 5, (2, -1, 0)))
        self.assertEqual(crossing_lengths(self.taken, met), ((0, 1), met.length))

    def test_none(self):
        for met in (
            pass_from(BOX, place(0, 1, 5), 0, (0, 1, -1)), self.taken, back_pass(self.taken),
            pass_from(BOX, place(0, 2, 5), 5, (1, 1, 0)), pass_from(BOX, place("3/2", 1, 5), 5, (1, -1, 0)),
            pass_from(BOX, place(0, "1/2", 5), 5, (1, -1, 0)), pass_from(BOX, place("1/2", 3, 5), 5, (-1, -1, 0)),
        ):
            self.assertIsNone(crossing_lengths(self.taken, met))
            self.assertIsNone(crossing_lengths(met, self.taken))
            self.assertIsNone(pass_crossing(self.taken, met))

    def test_unlike_faces_of_one_kind(self):
        met = pass_from(BOX, place(2, 1, 0), 4, (-1, 1, 0))
        self.assertIsNone(crossing_lengths(self.taken, met))
        self.assertIsNone(pass_crossing(self.taken, met))

    def test_passes_that_end_inside(self):
        short = back_pass(pass_from(BOX, place("3/2", "5/2", 5), 5, (1, 1, 0)))
        met = pass_from(BOX, place(1, 3, 5), 5, (0, -1, 0))
        self.assertEqual(short.end, place("3/2", "5/2", 5))
        self.assertIsNone(crossing_lengths(short, met))
        self.assertIsNone(crossing_lengths(met, short))
        met = pass_from(BOX, place("3/2", 3, 5), 5, (0, -1, 0))
        self.assertEqual(crossing_lengths(short, met), ((1, 2), (1, 2)))


if __name__ == "__main__":
    unittest.main()
