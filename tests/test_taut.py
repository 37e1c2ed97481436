import unittest
from fractions import Fraction
from itertools import product

from helping import (
    AXES, BOXES, NO_NUMBERS, SLOPES, as_lists, entrances, number, only_tuples, point, ratio, refused, traced,
)
from test_facerows import BAD_ROWS, FOUR_HUNDRED
from tautparcel.boxes import Box
from tautparcel.errors import BadFaceRow, BadMost, BadOffset, BadStart, ParcelError
from tautparcel.facerows import back_row, begun_row, check_facerow, least_row, single_row
from tautparcel.lanes import lanes_of, settled_lane, strips_of, twin_of
from tautparcel.places import faces_at, place_on
from tautparcel.ribbons import Ribbon, ribbon_of
from tautparcel.slopes import sideways, slope_of
from tautparcel.taut import (
    Lane, NotTaut, Slide, boxes_of_row, entrances_in, rows_through, slide_of, taut_row,
)
from tautparcel.unfolding import gate_corners, gates_at, shift_at, unfold_row

BOX = Box((1, 2, 3))
CUBE = Box((1, 1, 1))
STILL = (4, 0, 2, 4, 1, 5, 3, 1, 5, 2)
# A lane with numbers of its direction above 10,000.
STEEP_BOX = Box((53, 56, 55))
STEEP_ROW = tuple(int(face) for face in (
    "5134021530412503142051342053124035214035120431502413052140351204351240531425034152034125304213504215"
    "3402514305241305214035120431502413052140352143025134205134021530412503142051340215340251430524135042"
    "1350243152034152043512405314250314205134021530412503142051342053124035214035120431502413052140351204"
    "351240531425034152034125304213504215340251430524135042135024315203415204351240531425031420"
))


def all_rows(many):
    """All good rows of so many faces, by trying all."""
    for row in product(range(6), repeat=many):
        try:
            yield check_facerow(row)
        except BadFaceRow:
            pass


class Taut(unittest.TestCase):
    def test_cube(self):
        lane = taut_row(CUBE, [0, 2, 5, 1, 3, 4])
        self.assertEqual(lane, Lane(CUBE, (0, 2, 5, 1, 3, 4), (0, -1, 1), 0, 3, 1))
        self.assertEqual((lane.slope, lane.row), ((1, 1), (0, 2, 5, 1, 3, 4)))
        self.assertEqual(
            list(vars(lane)), ["box", "faces", "direction", "low", "length", "breadth", "slope", "row"],
        )
        begun = taut_row(CUBE, (5, 1, 3, 4, 0, 2))
        self.assertEqual(begun, Lane(CUBE, (5, 1, 3, 4, 0, 2), (1, 1, 0), -1, 3, 1))
        self.assertEqual(begun.row, lane.row)
        self.assertTrue(begun != lane)
        self.assertTrue(only_tuples((lane.faces, lane.direction, lane.row, lane.slope)))

    def test_bands(self):
        lane = taut_row(BOX, (0, 3, 1, 2))
        self.assertEqual(lane, Lane(BOX, (0, 3, 1, 2), (0, 1, 0), -3, 6, 3))
        self.assertEqual((lane.slope, lane.row), ((1, 0), (0, 2, 1, 3)))

    def test_not_taut(self):
        cases = [
            (CUBE, (0, 2, 4, 0, 2, 4), NotTaut("repeated", 3, 0)), (BOX, FOUR_HUNDRED, NotTaut("repeated", 4, 0)),
            (BOX, (0, 2, 1, 3) * 2, NotTaut("repeated", 4, 0)),
            (CUBE, (0, 2, 4), NotTaut("turned", 1, 0)), (CUBE, (0, 2, 5), NotTaut("turned", 3, 0)),
            (BOX, (0, 2, 1, 4), NotTaut("turned", 2, 0)),
            (CUBE, STILL, NotTaut("still", 0, 0)), (BOX, STILL, self.judged(BOX, STILL)),
            (BOX, (0, 2, 4, 0, 3, 4), NotTaut("apart", 0, 2)), (BOX, (0, 2, 1, 4, 3, 5), NotTaut("apart", 4, 2)),
            (BOX, (0, 2, 5, 1, 4, 3), NotTaut("apart", 1, 3)),
        ]
        for box, row, told in cases:
            found = taut_row(box, list(row))
            self.assertEqual((found.what, found.first, found.second), (told.what, told.first, told.second), row)
            self.assertEqual(found, told)

    def test_refused(self):
        for row, index in BAD_ROWS:
            refused(self, BadFaceRow, {"index": index}, taut_row, BOX, row)
            refused(self, BadFaceRow, {"index": index}, boxes_of_row, row, 0)

    def test_by_the_words_of_the_promise(self):
        words = {}
        for box in (CUBE, BOX, Box((2, 3, 5))):
            for many in (3, 4, 5, 6):
                for row in all_rows(many):
                    told = self.judged(box, row)
                    found = taut_row(box, row)
                    if isinstance(told, tuple):
                        self.assertEqual((found.low, found.length, found.breadth), told)
                    else:
                        self.assertEqual(found, told)
                    words[getattr(found, "what", "taut")] = True
        self.assertEqual(sorted(words), ["apart", "repeated", "taut", "turned"])

    def judged(self, box, row):
        single = single_row(row)
        if len(single) < len(row):
            return NotTaut("repeated", len(single), 0)
        turn = unfold_row(row).turn
        if turn != 0:
            return NotTaut("turned", turn, 0)
        x, y = shift_at(box, row)
        length = max(n for n in range(1, 99) if x % n == 0 and y % n == 0)
        p, q = x // length, y // length
        rights = [p * right[1] - q * right[0] for right, left in gates_at(box, row)]
        lefts = [p * left[1] - q * left[0] for right, left in gates_at(box, row)]
        if max(rights) >= min(lefts):
            return NotTaut("apart", rights.index(max(rights)), lefts.index(min(lefts)))
        return (max(rights), length, min(lefts) - max(rights))

    def test_rows_of_ribbons_are_taut(self):
        many = 0
        for box in BOXES[:8]:
            for slope in SLOPES + [(1, 0)]:
                for where, face, direction in entrances(box, slope, 2)[3::83]:
                    try:
                        ribbon = ribbon_of(box, where, face, direction)
                    except BadStart:
                        continue
                    if isinstance(ribbon, Ribbon):
                        lane = taut_row(box, ribbon.faces)
                        self.assertEqual((lane.faces, lane.direction), (ribbon.faces, direction))
                        self.assertEqual((lane.length, lane.slope), (ribbon.length, slope))
                        side = number(sideways(face, direction, ribbon.passes[0].start))
                        self.assertTrue(lane.low < side < lane.low + lane.breadth)
                        many += 1
        self.assertGreater(many, 100)

    def test_taut_rows_are_rows_of_ribbons(self):
        for box in (CUBE, BOX, Box((2, 3, 5))):
            for row in list(rows_through(box, 6)):
                lane = taut_row(box, row)
                (_, (where, face, direction)), *_ = entrances_in(lane, ratio(Fraction(lane.breadth, 2)))
                ribbon = ribbon_of(box, where, face, direction)
                self.assertEqual((ribbon.faces, ribbon.length), (row, lane.length))

    def test_twins(self):
        for box in (CUBE, BOX):
            for row in list(rows_through(box, 6)):
                twin = taut_row(box, back_row(row))
                lane = taut_row(box, row)
                self.assertEqual((twin.length, twin.breadth, twin.slope), (lane.length, lane.breadth, lane.slope))
                self.assertEqual(twin.direction, tuple(-step for step in lane.direction))
                self.assertEqual(twin.low, -lane.low - lane.breadth)
                self.assertNotIn(back_row(row), [begun_row(row, index) for index in range(len(row))])

    def test_results(self):
        for made, names in [
            (NotTaut("a", [1], None), ["what", "first", "second"]), (Slide([1], "b"), ["right", "left"]),
        ]:
            self.assertEqual(list(vars(made)), names)
            kind, values = made.__class__, list(vars(made).values())
            self.assertTrue(made == kind(*values))
            self.assertIs(made == tuple(values), False)
            for index in range(len(values)):
                self.assertTrue(made != kind(*values[:index], "other", *values[index + 1:]))
        lane = taut_row(CUBE, [0, 2, 5, 1, 3, 4])
        values = list(vars(lane).values())[:6]
        others = [BOX, (0, 2, 4, 1, 3, 5), (0, 1, 1), 7, 8, 9]
        for index in range(6):
            self.assertTrue(lane != Lane(*values[:index], others[index], *values[index + 1:]))
        self.assertTrue(lane != Lane(CUBE, back_row(lane.faces), *values[2:]))
        self.assertIs(lane == lane.faces, False)


class Steep(unittest.TestCase):
    def setUp(self):
        self.lane = taut_row(STEEP_BOX, STEEP_ROW)

    def test_direction_of_any_size(self):
        self.assertEqual(self.lane.direction, (13009, 8299, 0))
        self.assertEqual((self.lane.slope, self.lane.length, self.lane.breadth), ((13009, 8299), 1, 4517))
        self.assertEqual(len(STEEP_ROW), 390)

    def test_entrances(self):
        found = entrances_in(self.lane, (1, 2))
        (moment, (where, face, direction)) = found[0]
        rows = traced(STEEP_BOX.sides, point(where), face, direction, 391)
        gone = Fraction(0)
        for row, (moment, entrance) in zip(rows, found):
            self.assertEqual((point(entrance[0]), entrance[1], entrance[2]), (row[2], row[0], row[1]))
            self.assertEqual(moment, ratio(gone))
            gone += row[4]
        self.assertEqual(gone, 1)

    def test_strips_and_twin(self):
        strips = strips_of(self.lane)
        self.assertEqual([strip.face for strip in strips], list(STEEP_ROW))
        self.assertEqual({strip.high - strip.low for strip in strips}, {4517})
        self.assertEqual(twin_of(twin_of(self.lane)), settled_lane(self.lane))
        self.assertEqual(taut_row(STEEP_BOX, settled_lane(self.lane).faces), settled_lane(self.lane))


class Slides(unittest.TestCase):
    def test_cube(self):
        lane = taut_row(CUBE, [0, 2, 5, 1, 3, 4])
        self.assertEqual(slide_of(lane), Slide(
            ((0, 0), (1, 5), (2, 5), (3, 6), (4, 6), (5, 0)), ((0, 1), (1, 1), (2, 7), (3, 7), (4, 2), (5, 2)),
        ))
        self.assertTrue(only_tuples((slide_of(lane).right, slide_of(lane).left)))

    def test_band(self):
        self.assertEqual(slide_of(taut_row(BOX, (0, 3, 1, 2))), Slide(
            ((0, 3), (1, 7), (2, 5), (3, 1)), ((0, 2), (1, 6), (2, 4), (3, 0)),
        ))

    def test_borders(self):
        for box in BOXES[:6]:
            for slope in SLOPES[:5]:
                for lane in lanes_of(box, slope):
                    slide = slide_of(lane)
                    many = len(lane.faces)
                    for told, end, side in ((slide.right, 0, lane.low), (slide.left, 1, lane.low + lane.breadth)):
                        self.assertTrue(told)
                        self.assertEqual(list(told), sorted(told))
                        first, second = [lane.direction[axis] for axis in AXES[lane.faces[0]]]
                        gates = [
                            (index, gate_corners(lane.faces)[index][end])
                            for index, gate in enumerate(gates_at(box, lane.faces))
                            if first * gate[end][1] - second * gate[end][0] == side
                        ]
                        self.assertEqual(list(told), gates)
                        for gate, corner in told:
                            beside = [(gate + 1) % many, (gate - 1) % many]
                            self.assertTrue([1 for other in told if other[0] in beside and other[1] == corner])


class Entrances(unittest.TestCase):
    def test_cube(self):
        lane = taut_row(CUBE, [0, 2, 5, 1, 3, 4])
        found = entrances_in(lane, [1, 2])
        self.assertEqual(found[0], ((0, 1), (((0, 1), (1, 2), (0, 1)), 0, (0, -1, 1))))
        self.assertEqual([moment for moment, entrance in found], [(k, 2) if k % 2 else (k // 2, 1) for k in range(6)])
        self.assertTrue(only_tuples(found))

    def test_against_ribbons(self):
        for box in BOXES[:6]:
            for slope in SLOPES[:5] + [(1, 0)]:
                for lane in list(lanes_of(box, slope))[::2]:
                    for offset in ((1, 1000), (1, 2), (999, 1000), (lane.breadth * 1000 - 1, 1000)):
                        if not 0 < offset[0] < lane.breadth * offset[1] or len(lane.faces) > 80:
                            continue
                        found = entrances_in(lane, offset)
                        (moment, (where, face, direction)) = found[0]
                        self.assertEqual(moment, (0, 1))
                        side = number(sideways(face, direction, where))
                        self.assertEqual(side, lane.low + number(offset))
                        self.assertIn(lane.faces[-1], faces_at(box, where))
                        ribbon = ribbon_of(box, where, face, direction)
                        gone = Fraction(0)
                        for taken, (moment, entrance) in zip(ribbon, found):
                            self.assertEqual(entrance, (taken.start, taken.face, taken.direction))
                            self.assertEqual(moment, ratio(gone))
                            gone += number(taken.length)
                        self.assertEqual(len(found), len(ribbon))

    def test_offsets(self):
        lane = taut_row(BOX, (0, 3, 1, 2))
        for offset in ((1, 1000), (2999, 1000), (1, 1), (2, 1), [5, 2]):
            self.assertEqual(len(entrances_in(lane, offset)), 4)
        for offset in (
            (0, 1), (3, 1), (-1, 2), (7, 2), (1, 1001), (3002, 1001), (2, 4), (True, 1), (1, True), None, 1, "12", (1,),
            (3001, 1000),
        ):
            refused(self, BadOffset, {"offset": offset}, entrances_in, lane, offset)
        cube = taut_row(CUBE, [0, 2, 5, 1, 3, 4])
        refused(self, BadOffset, {"offset": (1, 1)}, entrances_in, cube, (1, 1))
        self.assertEqual(entrances_in(cube, (999, 1000))[0][1][0], place_on(CUBE, 0, (0, 1), (999, 1000)))


class Through(unittest.TestCase):
    def test_cube(self):
        self.assertEqual(list(rows_through(CUBE, 4)), [(0, 2, 1, 3), (0, 4, 1, 5), (2, 4, 3, 5)])
        self.assertEqual(list(rows_through(CUBE, 5)), list(rows_through(CUBE, 4)))

    def test_all(self):
        for box in (CUBE, BOX, Box((2, 3, 5))):
            told = []
            for many in (3, 4, 5, 6):
                rows = [row for row in all_rows(many) if least_row(row) == row]
                told += [row for row in rows if isinstance(taut_row(box, row), Lane)]
            found = list(rows_through(box, 6))
            self.assertEqual(found, told)
            self.assertEqual(found, sorted(found, key=lambda row: (len(row), row)))
            for slope in SLOPES + [(1, 0)]:
                for lane in lanes_of(box, slope):
                    if len(lane.faces) <= 6:
                        self.assertIn(lane.row, found)

    def test_refused(self):
        for most in NO_NUMBERS + [3, 7]:
            refused(self, BadMost, {"most": most}, rows_through, BOX, most)


class BoxesOfRow(unittest.TestCase):
    def test_some(self):
        found = boxes_of_row([0, 2, 5, 1, 3, 4], 2)
        self.assertEqual(found, ((1, 1, 1), (1, 2, 2), (2, 1, 2), (2, 2, 1), (2, 2, 2)))
        self.assertTrue(only_tuples(found))
        self.assertEqual(boxes_of_row((0, 2, 1, 3), 1), ((1, 1, 1),))
        self.assertEqual(len(boxes_of_row((0, 2, 1, 3), 6)), 216)
        self.assertEqual(boxes_of_row((0, 2, 4), 6), ())
        self.assertEqual(boxes_of_row(STILL, 2), ())

    def test_each(self):
        row = (0, 2, 4, 3, 1, 5)
        told = [
            (a, b, c) for a in range(1, 5) for b in range(1, 5) for c in range(1, 5)
            if isinstance(taut_row(Box((a, b, c)), row), Lane)
        ]
        self.assertEqual(list(boxes_of_row(row, 4)), told)

    def test_scaled(self):
        row = (0, 2, 4, 3, 1, 5)
        for sides in boxes_of_row(row, 3):
            lane = taut_row(Box(sides), row)
            larger = taut_row(Box([side * 3 for side in sides]), row)
            self.assertEqual((larger.length, larger.breadth), (3 * lane.length, 3 * lane.breadth))

    def test_refused(self):
        for most in NO_NUMBERS + [0, 7]:
            refused(self, BadMost, {"most": most}, boxes_of_row, (0, 2, 1, 3), most)


if __name__ == "__main__":
    unittest.main()
