import unittest

from helping import NO_NUMBERS, refused
from tautparcel.errors import BadFaceRow, BadIndex
from tautparcel.facerows import (
    back_row, begun_row, check_facerow, least_begun, least_row, same_row, single_row,
)

ROW = (0, 2, 5, 1, 3, 4)
FOUR_HUNDRED = (0, 2, 1, 3) * 100
BAD_ROWS = [
    (None, 0), (5, 0), ("0213", 0), ({0: 0, 1: 2, 2: 4}, 0), ((), 0), ((0, 2), 0), ([6, 7], 0),
    (FOUR_HUNDRED + (0,), 0), ((7,) * 401, 0),
    ((0, 2, 6), 2), ((6, 2, 4), 0), ((0, -1, 4), 1), ((0, 2, None, 9), 2), ((0, 0, 0, 7), 3), ((0, 2, True, 3), 2),
    ((0, 2, 4.0), 2), ((False, 2, 4), 0), ((0, "2", 4), 1),
    ((0, 0, 2, 4), 0), ((0, 1, 2, 4), 0), ((0, 2, 3, 4), 1), ((0, 2, 4, 4), 2), ((0, 2, 4, 1), 3), ((0, 2, 4, 0), 3),
    ((0, 2, 0, 4), 0), ((0, 2, 4, 2), 1), ((0, 2, 4, 0, 2, 5, 2), 4), ((4, 0, 2, 1, 4, 2), 4), ((4, 0, 2, 5, 3, 0), 5),
    ((0, 2, 1, 3, 0, 2, 1), 6),
]


class Check(unittest.TestCase):
    def test_good(self):
        for row in ((0, 2, 4), (0, 2, 1, 3), ROW, FOUR_HUNDRED, (0, 2, 4) * 133):
            self.assertEqual(check_facerow(row), row)
            self.assertEqual(check_facerow(list(row)), row)
            self.assertIs(type(check_facerow(list(row))), tuple)
        self.assertEqual(len(FOUR_HUNDRED), 400)

    def test_bad(self):
        for row, index in BAD_ROWS:
            for call in (check_facerow, back_row, least_begun, least_row, single_row):
                refused(self, BadFaceRow, {"index": index}, call, row)
                if isinstance(row, tuple):
                    refused(self, BadFaceRow, {"index": index}, call, list(row))
            refused(self, BadFaceRow, {"index": index}, begun_row, row, -1)
            refused(self, BadFaceRow, {"index": index}, same_row, row, None)
            refused(self, BadFaceRow, {"index": index}, same_row, ROW, row)

    def test_the_least_index(self):
        for row in ((0, 2, 4, 5, 1), (0, 2, 0, 2)):
            told = min(
                k for k in range(len(row))
                if row[k] // 2 == row[(k + 1) % len(row)] // 2 or row[k] == row[(k + 2) % len(row)]
            )
            refused(self, BadFaceRow, {"index": told}, check_facerow, row)


class Rows(unittest.TestCase):
    def test_begun(self):
        self.assertEqual(begun_row(list(ROW), 0), ROW)
        self.assertEqual(begun_row(ROW, 2), (5, 1, 3, 4, 0, 2))
        self.assertEqual(begun_row(ROW, 5), (4, 0, 2, 5, 1, 3))
        for index in NO_NUMBERS + [-1, 6]:
            refused(self, BadIndex, {"index": index}, begun_row, ROW, index)

    def test_back(self):
        self.assertEqual(back_row(list(ROW)), (0, 4, 3, 1, 5, 2))
        self.assertEqual(back_row(back_row(ROW)), ROW)
        self.assertEqual(back_row(begun_row(ROW, 2)), (5, 2, 0, 4, 3, 1))

    def test_least(self):
        for index in range(6):
            begun = begun_row(ROW, index)
            self.assertEqual(least_begun(list(begun)), ROW)
            self.assertEqual(least_begun(back_row(begun)), (0, 4, 3, 1, 5, 2))
            self.assertEqual(least_row(begun), ROW)
            self.assertEqual(least_row(list(back_row(begun))), ROW)
        row = (0, 2, 4, 0, 2, 5)
        self.assertEqual(least_begun(begun_row(row, 3)), row)
        self.assertEqual(least_row((0, 5, 2, 0, 4, 2)), row)
        self.assertEqual(least_begun(FOUR_HUNDRED[3:] + FOUR_HUNDRED[:3]), FOUR_HUNDRED)
        self.assertEqual(least_row((3, 0, 4)), (0, 3, 4))
        self.assertEqual(least_row((4, 3, 0)), (0, 3, 4))
        self.assertEqual(least_begun((4, 3, 0)), (0, 4, 3))

    def test_same(self):
        self.assertIs(same_row(ROW, list(begun_row(ROW, 3))), True)
        self.assertIs(same_row(ROW, back_row(begun_row(ROW, 3))), True)
        self.assertIs(same_row(ROW, (0, 2, 4, 1, 3, 5)), False)
        self.assertIs(same_row((0, 2, 1, 3), (0, 2, 1, 3) * 2), False)

    def test_single(self):
        self.assertEqual(single_row(list(ROW)), ROW)
        self.assertEqual(single_row(ROW * 2), ROW)
        self.assertEqual(single_row(FOUR_HUNDRED), (0, 2, 1, 3))
        self.assertEqual(single_row((2, 4, 0) * 5), (2, 4, 0))
        twice = (0, 2, 4, 0, 2, 5)
        self.assertEqual(single_row(twice), twice)
        self.assertEqual(single_row(twice * 3), twice)

    def test_nothing_is_changed(self):
        row = [4, 0, 2, 5, 1, 3]
        for call in (check_facerow, back_row, least_begun, least_row, single_row):
            self.assertIs(type(call(row)), tuple)
        self.assertEqual(row, [4, 0, 2, 5, 1, 3])


if __name__ == "__main__":
    unittest.main()
