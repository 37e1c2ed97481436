import unittest

from helping import BOXES, NO_NUMBERS, SLOPES, check_result, only_tuples, refused
from test_lanes import BEYOND, FULL
from tautparcel.along import all_hows, led_box, led_slope, scaled_box
from tautparcel.boxes import Box
from tautparcel.crossings import crossings_between, crossings_of
from tautparcel.errors import BadIndex, BadLaneLot, BadSlope, TooMany
from tautparcel.lanes import lanes_of
from tautparcel.pieces import pieces_of
from tautparcel.ribbons import back_ribbon, ribbon_begun
from tautparcel.tables import CrossTable, cross_table, crossings_told, measure_of, pieces_told, table_sum
from tautparcel.wherelane import ribbon_in

CUBE = Box((1, 1, 1))
BOX = Box((2, 3, 5))
KNOWN = []


def some_tables():
    if not KNOWN:
        for box in BOXES:
            for slope in SLOPES + [(1, 0)]:
                try:
                    KNOWN.append(cross_table(box, slope))
                except TooMany:
                    pass
    return KNOWN


def real_lot(table, lot):
    """Unlike ribbons of the lanes, some of them gone backwards."""
    ribbons = []
    for index, number in enumerate(lot):
        ribbon = ribbon_begun(ribbon_in(table.lanes[number], (2 * index + 1, 13)), index // 2)
        ribbons.append(back_ribbon(ribbon) if index % 2 else ribbon)
    return ribbons


class Tables(unittest.TestCase):
    def test_lanes_without_twins(self):
        for table in some_tables():
            lanes = lanes_of(table.box, table.slope)
            self.assertEqual(table.lanes, tuple(lane for lane in lanes if lane.faces == lane.row))
            self.assertEqual(len(table.lanes) * 2, len(lanes))
            self.assertTrue(only_tuples((table.lanes, table.rows, table.slope)))

    def test_numbers_of_real_ribbons(self):
        for table in some_tables()[::2]:
            for i, lane in enumerate(table.lanes):
                one = ribbon_in(lane, (1, 3))
                self.assertEqual(table.rows[i][i], len(crossings_of(one)))
                for j, other in enumerate(table.lanes):
                    if i < j and len(lane.faces) + len(other.faces) <= 150:
                        many = len(crossings_between(one, back_ribbon(ribbon_in(other, (2, 7)))))
                        self.assertEqual((table.rows[i][j], table.rows[j][i]), (many, many))
                        self.assertTrue(many >= 2 and many % 2 == 0)

    def test_cube(self):
        table = cross_table(CUBE, [1, 1])
        self.assertEqual(table.slope, (1, 1))
        self.assertEqual(table.rows, ((0, 2, 2, 2), (2, 0, 2, 2), (2, 2, 0, 2), (2, 2, 2, 0)))
        self.assertEqual((measure_of(table, 3), table_sum(table)), (6, 12))
        bands = cross_table(BOX, (1, 0))
        self.assertEqual(bands.rows, ((0, 2, 2), (2, 0, 2), (2, 2, 0)))
        self.assertEqual([measure_of(bands, index) for index in range(3)], [10, 14, 16])

    def test_measures_and_sums(self):
        for table in some_tables():
            first, second = table.slope
            square = first * first + second * second
            for index, lane in enumerate(table.lanes):
                told = sum(row * other.breadth for row, other in zip(table.rows[index], table.lanes))
                told += table.rows[index][index] * lane.breadth
                self.assertEqual(measure_of(table, index), told)
                self.assertEqual(told, square * lane.length)
            self.assertEqual(table_sum(table), square * table.box.skin_area)

    def test_made_by_hand(self):
        lanes = lanes_of(BOX, (1, 0)).lanes[::2]
        table = CrossTable(BOX, (1, 0), lanes, ((1, 2, 30), (2, 5, 7), (30, 7, 11)))
        self.assertEqual([lane.breadth for lane in lanes], [5, 3, 2])
        self.assertEqual([measure_of(table, index) for index in range(3)], [76, 54, 215])
        self.assertEqual(table_sum(table), 25 + 30 + 300 + 45 + 42 + 44)

    def test_indexes_refused(self):
        table = cross_table(BOX, (2, 1))
        for index in NO_NUMBERS + [-1, len(table.lanes)]:
            refused(self, BadIndex, {"index": index}, measure_of, table, index)

    def test_refused(self):
        for slope in ((0, 1), (2, 2), (10, 1), None, (True, 1), "11"):
            refused(self, BadSlope, {"slope": slope}, cross_table, BOX, slope)
        refused(self, TooMany, {"most": 400}, cross_table, BEYOND, (5, 9))
        self.assertEqual({len(lane.faces) for lane in lanes_of(FULL, (9, 7))}, {400})
        refused(self, TooMany, {"most": 400}, cross_table, FULL, (9, 7))

    def test_two_hundred_passes_each_are_let(self):
        told = {}
        for sides in ((3, 5, 4), (5, 4, 3), (4, 5, 6), (5, 7, 4), (7, 5, 6), (9, 4, 5)):
            for slope in ((5, 4), (7, 3), (8, 3)):
                try:
                    lanes = lanes_of(Box(sides), slope)
                except TooMany:
                    continue
                most = sum(sorted(len(lane.faces) for lane in lanes.lanes[::2])[-2:])
                try:
                    cross_table(Box(sides), slope)
                    self.assertLessEqual(most, 400)
                    told["let"] = max(most, told.get("let", 0))
                except TooMany:
                    self.assertGreater(most, 400)
                    told["many"] = min(most, told.get("many", 999))
        self.assertGreater(told["let"], 300)
        self.assertLess(told["many"], 600)

    def test_it_is_a_result(self):
        check_result(self, CrossTable, ["box", "slope", "lanes", "rows"])

    def test_the_same_seen_otherwise(self):
        table = cross_table(BOX, (3, 2))
        told = sorted((lane.breadth, lane.length, sorted(row)) for lane, row in zip(table.lanes, table.rows))
        for how in all_hows()[::5]:
            led = cross_table(led_box(BOX, how), led_slope((3, 2), how))
            self.assertEqual(told, sorted((l.breadth, l.length, sorted(row)) for l, row in zip(led.lanes, led.rows)))
        self.assertEqual(cross_table(scaled_box(BOX, 3), (3, 2)).rows, table.rows)


class LaneLots(unittest.TestCase):
    def test_against_real_ribbons(self):
        many = 0
        for table in some_tables()[::2]:
            last = len(table.lanes) - 1
            for lot in ([0], (last,), [0, 0], [last, 0], (0, last, 0), [last] * 3, [0, last // 2, last, 0, 0, last],
                        [0] * 6):
                if sum(len(table.lanes[number].faces) for number in lot) <= 90:
                    ribbons = real_lot(table, lot)
                    crossings = sum(len(crossings_of(ribbon)) for ribbon in ribbons)
                    for index, ribbon in enumerate(ribbons):
                        crossings += sum(len(crossings_between(ribbon, other)) for other in ribbons[:index])
                    self.assertEqual(crossings_told(table, lot), crossings)
                    self.assertEqual(pieces_told(table, lot), len(pieces_of(ribbons)))
                    many += 1
        self.assertGreater(many, 60)

    def test_told(self):
        table = cross_table(CUBE, (1, 1))
        self.assertEqual((crossings_told(table, [0, 0, 0]), pieces_told(table, [0, 0, 0])), (0, 4))
        self.assertEqual((crossings_told(table, [0, 1, 0]), pieces_told(table, [0, 1, 0])), (4, 6))
        self.assertEqual((crossings_told(table, (2,)), pieces_told(table, (2,))), (0, 2))
        long = cross_table(Box((1, 1, 2)), (1, 1))
        own = long.rows[0][0]
        self.assertGreater(own, 0)
        self.assertEqual((crossings_told(long, [0]), pieces_told(long, [0])), (own, own + 2))
        self.assertEqual((crossings_told(long, [0, 0]), pieces_told(long, [0, 0])), (4 * own, 4 * own + 2))

    def test_refused(self):
        table = cross_table(CUBE, (1, 1))
        for call in (crossings_told, pieces_told):
            for lot in (None, 5, "012", {0: 0}, (), [], [0] * 7, [9] * 7):
                refused(self, BadLaneLot, {"index": 0}, call, table, lot)
            for number in NO_NUMBERS + [-1, 4]:
                refused(self, BadLaneLot, {"index": 0}, call, table, [number, 9])
                refused(self, BadLaneLot, {"index": 2}, call, table, (3, 0, number, 1))
                refused(self, BadLaneLot, {"index": 5}, call, table, [3, 0, 1, 1, 2, number])


if __name__ == "__main__":
    unittest.main()
