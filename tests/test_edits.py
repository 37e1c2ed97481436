import unittest

from helping import NO_NUMBERS, as_lists, check_result, only_tuples, refused
from tautparcel.along import all_hows, led_box, led_slope
from tautparcel.boxes import Box
from tautparcel.edits import Winding, check_edits, winding_after
from tautparcel.errors import BadEdit, NoWinding
from tautparcel.lanes import lanes_of

HOW = ((1, 2, 0), (1, -1, 1))
EDITS = [("side", 0, 59), ("side", 2, -59), ("scale", 2), ("scale", 60), ("slope", 1, 9), ("slope", 9, 8), ("turn", HOW)]
START = Winding(Box((2, 3, 5)), (1, 2))


def told(winding):
    return (winding.box.sides, winding.slope)


class Edits(unittest.TestCase):
    def test_each_form(self):
        self.assertEqual(check_edits(EDITS), tuple(EDITS))
        found = check_edits(as_lists(EDITS))
        self.assertEqual(found, tuple(EDITS))
        self.assertTrue(only_tuples(found))
        self.assertEqual((check_edits([]), check_edits(())), ((), ()))

    def test_hundred(self):
        self.assertEqual(len(check_edits([("scale", 2)] * 100)), 100)
        for edits in ([("scale", 2)] * 101, None, 5, "side", {("scale", 2): 1}, iter(EDITS), [None] * 101):
            refused(self, BadEdit, {"index": 0, "what": "many"}, check_edits, edits)
            refused(self, BadEdit, {"index": 0, "what": "many"}, winding_after, START, edits)

    def test_words(self):
        lot = [(edit, "edit") for edit in (
            None, 5, "side", (), ("side",), ("side", 0), ("side", 0, 1, 1), ("scale",), ("scale", 2, 2), ("slope", 1),
            ("slope", 1, 2, 3), ("turn",), ("turn", HOW, HOW), ("size", 2), ("Side", 0, 1), (None, 0, 1), (0, "side", 1),
            ([], 1), {"scale": 1, 2: 2}, (b"scale", 2), ("slope", (1, 2)), ("turn", *HOW))]
        lot += [(("side", axis, None), "axis") for axis in NO_NUMBERS + [-1, 3]]
        lot += [(("side", 1, by), "by") for by in NO_NUMBERS + [0, 60, -60]]
        lot += [(("scale", size), "size") for size in NO_NUMBERS + [1, 0, -2, 61]]
        lot += [(("slope", p, q), "slope") for p, q in
                ((1, 0), (0, 1), (2, 2), (10, 1), (1, 10), (True, 1), (1, None), ("1", 1), (3, 6), (-1, 1), (1, True))]
        lot += [(("turn", how), "turn") for how in (
            None, (), (HOW[0],), ((0, 1, 1), (1, 1, 1)), ((0, 1, 2), (1, 1, 2)), ((0, True, 2), (1, 1, 1)), 5, "turn")]
        for wrong, word in lot:
            for index in (0, 3):
                edits = EDITS[:index] + [wrong, None]
                for call, *rest in ((check_edits,), (winding_after, START)):
                    refused(self, BadEdit, {"index": index, "what": word}, call, *rest, edits)
                    refused(self, BadEdit, {"index": index, "what": word}, call, *rest, tuple(edits))


class After(unittest.TestCase):
    def test_none(self):
        for edits in ((), []):
            self.assertEqual(winding_after(START, edits), START)

    def test_each_edit(self):
        for edit, sides, slope in (
            (("side", 0, 3), (5, 3, 5), (1, 2)), (("side", 1, -2), (2, 1, 5), (1, 2)), (("side", 2, 55), (2, 3, 60), (1, 2)),
            (("scale", 12), (24, 36, 60), (1, 2)), (("slope", 9, 7), (2, 3, 5), (9, 7)),
            (["side", 0, 58], (60, 3, 5), (1, 2)),
        ):
            self.assertEqual(told(winding_after(START, [edit])), (sides, slope))
        for how in all_hows():
            found = winding_after(START, [("turn", as_lists(how))])
            self.assertEqual(found, Winding(led_box(START.box, how), led_slope(START.slope, how)))

    def test_one_after_another(self):
        edits = [("side", 0, -1), ("scale", 3), ("turn", ((2, 0, 1), (1, 1, -1))), ("slope", 2, 3), ("side", 1, 7),
                 ("turn", ((1, 0, 2), (1, 1, 1)))]
        sides = [(1, 3, 5), (3, 9, 15), (15, 3, 9), (15, 3, 9), (15, 10, 9), (10, 15, 9)]
        slopes = [(1, 2), (1, 2), (2, 1), (2, 3), (2, 3), (3, 2)]
        for many in range(1, 7):
            found = winding_after(START, edits[:many])
            self.assertEqual(told(found), (sides[many - 1], slopes[many - 1]))
        self.assertEqual(told(START), ((2, 3, 5), (1, 2)))
        self.assertEqual(edits[0], ("side", 0, -1))
        self.assertTrue(only_tuples(found.slope))

    def test_sides_that_leave_on_the_way(self):
        for edits, index in (
            ([("side", 0, -2)], 0), ([("side", 2, 56)], 0), ([("scale", 13)], 0), ([("side", 1, -3), ("side", 1, 3)], 0),
            ([("slope", 1, 1), ("side", 1, 57), ("side", 1, 1), ("side", 1, -1)], 2),
            ([("scale", 2), ("scale", 6), ("scale", 2)], 2), ([("scale", 2)] * 100, 3),
            ([("side", 0, 59), ("side", 0, -59)], 0),
        ):
            refused(self, NoWinding, {"index": index}, winding_after, START, edits)
        self.assertEqual(told(winding_after(START, [("side", 1, 57), ("side", 1, -59), ("scale", 12)])),
                         ((24, 12, 60), (1, 2)))
        # All edits are checked before one is made.
        refused(self, BadEdit, {"index": 1, "what": "edit"}, winding_after, START, [("side", 0, -2), None])

    def test_sides_may_change_places(self):
        edits = [("side", 0, 4), ("side", 1, -2), ("side", 0, -1), ("side", 2, 9)]
        for order in ([0, 1, 2, 3], [3, 0, 2, 1], [1, 3, 0, 2], [0, 2, 3, 1]):
            self.assertEqual(told(winding_after(START, [edits[k] for k in order])), ((5, 1, 14), (1, 2)))

    def test_turns_and_scales_keep_lanes(self):
        for winding in (START, Winding(Box((1, 1, 2)), (3, 1)), Winding(Box((4, 2, 1)), (2, 3))):
            lanes = lanes_of(winding.box, winding.slope)
            for how in all_hows()[::7]:
                turned = winding_after(winding, [("turn", how)])
                other = lanes_of(turned.box, turned.slope)
                self.assertEqual(sorted((lane.length, lane.breadth) for lane in other),
                                 sorted((lane.length, lane.breadth) for lane in lanes))
            scaled = winding_after(winding, [("scale", 3)])
            rows = [(lane.faces, 3 * lane.length, 3 * lane.breadth) for lane in lanes]
            self.assertEqual([(lane.faces, lane.length, lane.breadth) for lane in lanes_of(scaled.box, scaled.slope)], rows)

    def test_it_is_a_result(self):
        check_result(self, Winding, ["box", "slope"])


if __name__ == "__main__":
    unittest.main()
