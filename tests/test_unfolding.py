import unittest
from fractions import Fraction

from helping import AXES, BOXES, NO_NUMBERS, SLOPES, as_lists, entrances, number, only_tuples, place, ratio, refused
from test_facerows import BAD_ROWS
from tautparcel.boxes import Box, edge_between
from tautparcel.errors import BadFaceRow, BadIndex, BadPlace, BadPoint, BadStart
from tautparcel.facerows import back_row, begun_row
from tautparcel.places import place_of_corner
from tautparcel.ribbons import Ribbon, ribbon_of
from tautparcel.unfolding import (
    Unfolded, flat_place, form_at, gate_corners, gates_at, shift_at, solid_place, unfold_row,
)

BOX = Box((2, 3, 5))
ROWS = [
    (0, 2, 4), (0, 2, 5), (0, 2, 1, 3), (0, 2, 1, 4), (0, 2, 5, 1, 3, 4), (0, 2, 4, 3, 1, 5), (0, 2, 1, 3, 5),
    (4, 0, 2, 4, 1, 5, 3, 1, 5, 2), (0, 2, 4, 0, 2, 5), (1, 4, 0, 5, 3, 4, 0, 5, 1, 4, 3, 5), (5, 1, 4, 0),
]


def rotated(where, turn):
    for _ in range(turn):
        where = (-where[1], where[0])
    return where


def turned_forms(where, turn):
    for _ in range(turn):
        where = (tuple(-n for n in where[1]), where[0])
    return where


class Unfolding(unittest.TestCase):
    def test_round_a_band(self):
        told = unfold_row([5, 1, 4, 0])
        self.assertEqual(told.row, (5, 1, 4, 0))
        self.assertEqual(told.placings, (
            (0, ((0, 0, 0), (0, 0, 0))), (1, ((1, 0, 1), (0, 0, 0))), (1, ((2, 0, 1), (0, 0, 0))),
            (0, ((2, 0, 1), (0, 0, 0))), (0, ((2, 0, 2), (0, 0, 0))),
        ))
        self.assertEqual(told.gates, (
            (((1, 0, 0), (0, 0, 0)), ((1, 0, 0), (0, 1, 0))), (((1, 0, 1), (0, 0, 0)), ((1, 0, 1), (0, 1, 0))),
            (((2, 0, 1), (0, 0, 0)), ((2, 0, 1), (0, 1, 0))), (((2, 0, 2), (0, 0, 0)), ((2, 0, 2), (0, 1, 0))),
        ))
        self.assertEqual((told.turn, told.shift), (0, ((2, 0, 2), (0, 0, 0))))
        self.assertTrue(only_tuples((told.row, told.placings, told.gates)))
        self.assertEqual(gate_corners([5, 1, 4, 0]), ((5, 7), (4, 6), (0, 2), (1, 3)))
        self.assertEqual(gates_at(BOX, [5, 1, 4, 0])[3], ((14, 0), (14, 3)))
        self.assertEqual(shift_at(BOX, [5, 1, 4, 0]), (14, 0))
        self.assertTrue(only_tuples(gates_at(BOX, [5, 1, 4, 0])))

    def test_round_a_corner(self):
        told = unfold_row((1, 3, 5))
        self.assertEqual((told.turn, len(told.placings), len(told.gates)), (3, 4, 3))
        self.assertEqual(gate_corners((1, 3, 5)), ((6, 7), (3, 7), (5, 7)))
        self.assertEqual({left for right, left in told.gates}, {((0, 1, 0), (0, 0, 1))})
        self.assertEqual(unfold_row((1, 5, 3)).turn, 1)

    def test_next_to_each_other(self):
        for row in ROWS:
            told = unfold_row(row)
            self.assertEqual(len(told.placings), len(row) + 1)
            self.assertEqual(told.placings[0], (0, ((0, 0, 0), (0, 0, 0))))
            for box in BOXES:
                gates = gates_at(box, row)
                for index, ends in enumerate(gate_corners(row)):
                    faces = row[index], row[(index + 1) % len(row)]
                    self.assertEqual(tuple(sorted(ends)), edge_between(*faces))
                    for corner, where in zip(ends, gates[index]):
                        laid = (ratio(where[0]), ratio(where[1]))
                        there = place_of_corner(box, corner)
                        self.assertEqual(flat_place(box, row, index, there), laid)
                        self.assertEqual(flat_place(box, row, index + 1, there), laid)
                    self.check_sides(box, row, index, gates[index])

    def check_sides(self, box, row, index, gate):
        """The face lies on the left of the gate from the left to the right end, the next face on the right of it."""
        (a, b), (c, d) = gate
        sides = []
        for at in (index, index + 1):
            face = row[at % len(row)]
            where = [ratio(Fraction(side, 2)) for side in box.sides]
            where[face // 2] = ratio(box.sides[face // 2] * (face % 2))
            x, y = [number(value) for value in flat_place(box, row, at, where)]
            sides.append((c - a) * (y - b) - (d - b) * (x - a) > 0)
        self.assertEqual(sides, [True, False])

    def test_forms(self):
        self.assertEqual(form_at(BOX, (1, -2, 3)), 11)
        self.assertEqual(form_at(BOX, [0, 0, 0]), 0)
        for row in ROWS:
            told = unfold_row(row)
            for box in BOXES:
                self.assertEqual(shift_at(box, list(row)), tuple(form_at(box, form) for form in told.shift))
                self.assertEqual(gates_at(box, list(row)), tuple(
                    tuple(tuple(form_at(box, form) for form in end) for end in gate) for gate in told.gates
                ))

    def test_laws(self):
        for row in ROWS:
            told = unfold_row(row)
            self.assertEqual(told.turn % 2 == 0, len(row) % 2 == 0)
            back = unfold_row(back_row(row))
            self.assertEqual(back.turn, (4 - told.turn) % 4)
            for index in range(len(row)):
                begun = unfold_row(begun_row(row, index))
                self.assertEqual(begun.turn, told.turn)
                if told.turn == 0:
                    turned = turned_forms(begun.shift, told.placings[index][0])
                    self.assertEqual(turned, told.shift)
            if told.turn == 0:
                self.assertEqual(back.shift, turned_forms(told.shift, 2))

    def test_straight_ribbons(self):
        for box in BOXES[3:7]:
            for slope in SLOPES[:4]:
                for where, face, direction in entrances(box, slope, 2)[5::60]:
                    try:
                        ribbon = ribbon_of(box, where, face, direction)
                    except BadStart:
                        continue
                    if not isinstance(ribbon, Ribbon) or len(ribbon) > 400:
                        continue
                    first, second = [direction[axis] for axis in AXES[face]]
                    gone = Fraction(0)
                    start = [number(value) for value in flat_place(box, ribbon.faces, 0, ribbon.passes[0].start)]
                    for index, taken in enumerate((*ribbon, ribbon.passes[0])):
                        if index % 7 == 0 or index == len(ribbon):
                            there = [number(value) for value in flat_place(box, ribbon.faces, index, taken.start)]
                            self.assertEqual(there, [start[0] + gone * first, start[1] + gone * second])
                        gone += number(taken.length)

    def test_refused(self):
        for row, index in BAD_ROWS:
            for call in (unfold_row, gate_corners):
                refused(self, BadFaceRow, {"index": index}, call, row)
            for call in (gates_at, shift_at):
                refused(self, BadFaceRow, {"index": index}, call, BOX, row)
            for call in (flat_place, solid_place):
                refused(self, BadFaceRow, {"index": index}, call, BOX, row, -1, None)

    def test_it_is_a_result(self):
        made = Unfolded([1], ((0, "a"), (3, "b")), None)
        self.assertEqual(list(vars(made).items()), [("row", [1]), ("placings", ((0, "a"), (3, "b"))), ("gates", None)])
        self.assertEqual((made.turn, made.shift), (3, "b"))
        self.assertTrue(unfold_row([1, 3, 5]) == unfold_row((1, 3, 5)))
        self.assertTrue(unfold_row([1, 3, 5]) != unfold_row((1, 5, 3)))
        self.assertIs(made == 5, False)
        for other in (Unfolded([2], made.placings, None), Unfolded([1], (), None), Unfolded([1], made.placings, 1)):
            self.assertTrue(made != other)


class Places(unittest.TestCase):
    def test_flat(self):
        row = (5, 1, 4, 0)
        where = place(2, 1, "5/2")
        self.assertEqual(flat_place(BOX, list(row), 1, as_lists(where)), ((9, 2), (1, 1)))
        self.assertTrue(only_tuples(flat_place(BOX, list(row), 1, as_lists(where))))
        self.assertEqual(flat_place(BOX, row, 0, place("1/2", "1/3", 5)), ((1, 2), (1, 3)))
        self.assertEqual(flat_place(BOX, row, 4, place("1/2", "1/3", 5)), ((29, 2), (1, 3)))

    def test_there_and_back(self):
        for box in BOXES[2:7]:
            for row in ROWS:
                for index in range(len(row) + 1):
                    face = row[index % len(row)]
                    where = [ratio(side * Fraction(2, 7)) for side in box.sides]
                    where[face // 2] = ratio(box.sides[face // 2] * (face % 2))
                    flat = flat_place(box, row, index, where)
                    self.assertEqual(solid_place(box, row, index, flat), tuple(where))
                    self.assertEqual(solid_place(box, list(row), index, as_lists(flat)), tuple(where))
                    self.assertTrue(only_tuples(solid_place(box, list(row), index, as_lists(flat))))

    def test_edges_belong_to_the_face(self):
        row = (5, 1, 4, 0)
        self.assertEqual(solid_place(BOX, row, 0, ((2, 1), (3, 1))), place(2, 3, 5))
        self.assertEqual(solid_place(BOX, row, 1, ((2, 1), (3, 1))), place(2, 3, 5))
        self.assertEqual(solid_place(BOX, row, 1, ((7, 1), (0, 1))), place(2, 0, 0))
        refused(self, BadPoint, {"point": ((15, 7), (3, 1))}, solid_place, BOX, row, 0, ((15, 7), (3, 1)))
        refused(self, BadPoint, {"point": ((13, 7), (3, 1))}, solid_place, BOX, row, 1, ((13, 7), (3, 1)))
        refused(self, BadPoint, {"point": ((1, 1), (-1, 9))}, solid_place, BOX, row, 0, ((1, 1), (-1, 9)))
        for outside in ((3, 1), (1, 1)), ((2, 1), (4, 1)), ((-1, 1), (0, 1)), ((0, 1), (-1, 1)):
            refused(self, BadPoint, {"point": outside}, solid_place, BOX, row, 0, outside)
        great = ((1, 10 ** 15), (1, 10 ** 15 + 1))
        self.assertEqual(solid_place(BOX, row, 0, great), (*great, (5, 1)))

    def test_refused(self):
        row = (5, 1, 4, 0)
        for index in NO_NUMBERS + [-1, 5]:
            refused(self, BadIndex, {"index": index}, flat_place, BOX, row, index, None)
            refused(self, BadIndex, {"index": index}, solid_place, BOX, row, index, None)
        great = ((2, 1), (1, 10 ** 12 + 1), (1, 1))
        for where in (None, place(1, 1, 1), place(0, 1, 1), ((2, 1), (True, 1), (1, 1)), great):
            refused(self, BadPlace, {"place": where}, flat_place, BOX, row, 1, where)
        for point in (
            None, 5, (), ((1, 1),), ((1, 1), (1, 1), (1, 1)), ((2, 2), (1, 1)), ((1, 1), (True, 1)), (1, 1), "ab",
        ):
            refused(self, BadPoint, {"point": point}, solid_place, BOX, row, 0, point)


if __name__ == "__main__":
    unittest.main()
