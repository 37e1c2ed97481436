import unittest

from helping import ALL_SLOPES, BOXES, NO_NUMBERS, as_lists, only_tuples, place, refused
from tautparcel.boxes import Box
from tautparcel.errors import BadBox, BadDirection, BadFace, BadPlace, BadSlope, BadText
from tautparcel.parceltext import (
    box_text, entrance_text, place_text, read_box, read_entrance, read_place, read_ratio, read_row, read_slope,
    row_text, slope_text,
)
from tautparcel.ratios import ratio_text

BOX = Box((1, 2, 3))
NO_TEXTS = [None, 5, b"1", ["1"], ("1",), True]
ONES = "1" * 30


class Ratios(unittest.TestCase):
    def test_read(self):
        for text, ratio in [("0", (0, 1)), ("3", (3, 1)), ("-1/2", (-1, 2)), ("10/7", (10, 7)), ("-12", (-12, 1))]:
            self.assertEqual(read_ratio(text), ratio)
            self.assertEqual(ratio_text(ratio), text)

    def test_thirty_digits(self):
        self.assertEqual(read_ratio(ONES), (int(ONES), 1))
        self.assertEqual(read_ratio("-" + ONES), (-int(ONES), 1))
        self.assertEqual(read_ratio("2/" + ONES), (2, int(ONES)))
        for text in (ONES + "1", "-" + ONES + "1", "2/" + ONES + "1", ONES + "1/2"):
            refused(self, BadText, {"text": text}, read_ratio, text)

    def test_another_form(self):
        wrong = [
            "", " ", "1 ", " 1", "+1", "-0", "01", "-01", "1/1", "2/4", "0/2", "1/-2", "1/0", "1/02",
            "1/", "/2", "1/2/3",
            "--1", "-", "1.0", "1e3", "1_0", "\u0661", "\u00b2", "a", "1 /2", "1/ 2", "1\n", "0/1", "-0/1", "(1)", "1,",
        ]
        for text in wrong:
            refused(self, BadText, {"text": text}, read_ratio, text)


class Boxes(unittest.TestCase):
    def test_there_and_back(self):
        self.assertEqual(box_text(BOX), "1x2x3")
        self.assertEqual(box_text(Box([60, 1, 10])), "60x1x10")
        for box in BOXES:
            self.assertEqual(read_box(box_text(box)), box)

    def test_refused(self):
        for text in (
            "", "1x2", "1x2x3x4", "1X2X3", "1x2x03", "1x2x3 ", " 1x2x3", "1x 2x3", "1xx2", "1x2x", "1x2x1/2", "+1x2x3",
        ):
            refused(self, BadText, {"text": text}, read_box, text)
        refused(self, BadBox, {"index": 0}, read_box, "0x61x1")
        refused(self, BadBox, {"index": 1}, read_box, "1x61x1")
        refused(self, BadBox, {"index": 2}, read_box, "1x60x-1")
        refused(self, BadBox, {"index": 2}, read_box, "1x1x" + ONES)
        refused(self, BadText, {"text": "1x1x" + ONES + "1"}, read_box, "1x1x" + ONES + "1")


class Slopes(unittest.TestCase):
    def test_there_and_back(self):
        self.assertEqual(slope_text([2, 3]), "2:3")
        self.assertEqual(slope_text((1, 0)), "1:0")
        for slope in ALL_SLOPES + [(1, 0)]:
            self.assertEqual(read_slope(slope_text(slope)), slope)

    def test_refused(self):
        for text in ("", "2", "2:3:1", "2 : 3", "2:3 ", ":3", "2:", "02:3", "2/3", "2:+3", "2:3.0"):
            refused(self, BadText, {"text": text}, read_slope, text)
        for text, slope in [("2:4", (2, 4)), ("0:1", (0, 1)), ("10:1", (10, 1)), ("-1:2", (-1, 2))]:
            refused(self, BadSlope, {"slope": slope}, read_slope, text)
            refused(self, BadSlope, {"slope": slope}, slope_text, slope)
        refused(self, BadSlope, {"slope": (1, False)}, slope_text, (1, False))


class Places(unittest.TestCase):
    def test_there_and_back(self):
        self.assertEqual(place_text(BOX, place("1/2", 0, 1)), "(1/2, 0, 1)")
        self.assertEqual(place_text(BOX, as_lists(place("1/2", 0, 1))), "(1/2, 0, 1)")
        for where in (place("1/2", 0, 1), place(1, 2, 3), place("3/7", "1/1000000000000", 0)):
            self.assertEqual(read_place(BOX, place_text(BOX, where)), where)
            self.assertTrue(only_tuples(read_place(BOX, place_text(BOX, where))))

    def test_refused(self):
        wrong = [
            "", "()", "(", ")", "1/2, 0, 1", "(1/2, 0)", "(1/2, 0, 1, 1)", "(1/2,0,1)", "(1/2, 0, 1) ", " (1/2, 0, 1)",
            "(1/2,  0, 1)", "( 1/2, 0, 1)", "(1/2, 0, 1 )", "(2/4, 0, 1)", "[1/2, 0, 1]", "(1/2, 0, 01)",
            "(1/2, -0, 1)",
            "((1/2, 0, 1))", "(1/2, 0, 1", "(1/2, , 1)", "[1/2, 0, 1)", "(1/2, 0, 1]",
        ]
        for text in wrong:
            refused(self, BadText, {"text": text}, read_place, BOX, text)
        for text, where in [("(1/2, 1, 1)", place("1/2", 1, 1)), ("(-1, 0, 1)", place(-1, 0, 1))]:
            refused(self, BadPlace, {"place": where}, read_place, BOX, text)
        great = "(1/" + str(10 ** 12 + 1) + ", 0, 1)"
        refused(self, BadPlace, {"place": ((1, 10 ** 12 + 1), (0, 1), (1, 1))}, read_place, BOX, great)
        refused(self, BadPlace, {"place": None}, place_text, BOX, None)
        refused(self, BadPlace, {"place": place("1/2", 1, 1)}, place_text, BOX, place("1/2", 1, 1))


class Rows(unittest.TestCase):
    def test_there_and_back(self):
        self.assertEqual(row_text([1, 5, 0, 4]), "1 5 0 4")
        self.assertEqual(row_text(()), "")
        self.assertEqual(row_text([3]), "3")
        for row in ((), (0,), (1, 5, 0, 4), (5, 5, 5)):
            self.assertEqual(read_row(row_text(row)), row)
            self.assertIs(type(read_row(row_text(row))), tuple)

    def test_refused(self):
        for text in (" ", "1 ", " 1", "1  5", "6", "-1", "1,5", "15", "1 x", "1 00", "\u0661", "1\n5", "1\t5"):
            refused(self, BadText, {"text": text}, read_row, text)
        for face in NO_NUMBERS + [6, -1]:
            refused(self, BadFace, {"face": face}, row_text, [1, face, 9])
        refused(self, BadFace, {"face": 5}, row_text, 5)

    def test_two_thousand_signs(self):
        text = " ".join(["5"] * 1000)
        self.assertEqual(read_row(text), (5,) * 1000)
        self.assertEqual(len(text + " 5"), 2001)
        refused(self, BadText, {"text": text + " 5"}, read_row, text + " 5")
        for read in (read_ratio, read_box, read_slope, read_row):
            for many in (2000, 2001):
                refused(self, BadText, {"text": "1" * many}, read, "1" * many)


class Entrances(unittest.TestCase):
    def test_there_and_back(self):
        text = "(1/2, 0, 1) on 2 towards (1, 0, -2)"
        self.assertEqual(entrance_text(BOX, place("1/2", 0, 1), 2, (1, 0, -2)), text)
        self.assertEqual(entrance_text(BOX, as_lists(place("1/2", 0, 1)), 2, [1, 0, -2]), text)
        self.assertEqual(read_entrance(BOX, text), (place("1/2", 0, 1), 2, (1, 0, -2)))
        self.assertTrue(only_tuples(read_entrance(BOX, text)))

    def test_the_place_may_lie_elsewhere(self):
        text = "(1/2, 0, 1) on 5 towards (10000, -9999, 0)"
        self.assertEqual(entrance_text(BOX, place("1/2", 0, 1), 5, (10000, -9999, 0)), text)
        self.assertEqual(read_entrance(BOX, text), (place("1/2", 0, 1), 5, (10000, -9999, 0)))

    def test_text_refuses_in_order(self):
        refused(self, BadPlace, {"place": 1}, entrance_text, BOX, 1, 6, None)
        refused(self, BadFace, {"face": 6}, entrance_text, BOX, place(0, 0, 0), 6, None)
        refused(self, BadFace, {"face": True}, entrance_text, BOX, place(0, 0, 0), True, (0, 1, 1))
        refused(self, BadDirection, {"what": "axis"}, entrance_text, BOX, place(0, 0, 0), 5, (0, 0, 1))

    def test_read_refuses_in_order(self):
        for text, error, told in [
            ("(1/2, 1, 1) on 6 towards (0, 0, 0)", BadPlace, {"place": place("1/2", 1, 1)}),
            ("(1/2, 0, 1) on 6 towards (0, 0, 0)", BadFace, {"face": 6}),
            ("(1/2, 0, 1) on -1 towards (0, 0, 0)", BadFace, {"face": -1}),
            ("(1/2, 0, 1) on 2 towards (0, 0, 0)", BadDirection, {"what": "both"}),
            ("(1/2, 0, 1) on 2 towards (10001, 0, 1)", BadDirection, {"what": "kind"}),
            ("(1/2, 0, 1) on 2 towards (1, 1, 0)", BadDirection, {"what": "axis"}),
            ("(1/2, 0, 1) on 2 towards (2, 0, 2)", BadDirection, {"what": "common"}),
        ]:
            refused(self, error, told, read_entrance, BOX, text)

    def test_another_form(self):
        good = "(1/2, 0, 1) on 2 towards (1, 0, -2)"
        wrong = [
            "", good + " ", " " + good, good.replace(" on ", "  on "), good.replace(" on", ""),
            good.replace("towards", "to"), good.replace("-2", "-2/3"), good.replace("1, 0, -2", "1, 0"),
            good.replace(" on 2", " on 2 on 2"),
            good + " towards (1, 0, -2)", good.replace("2 t", "02 t"), good.replace("1/2", "2/4"),
            good.replace("(1, 0", "(1,0"), good.replace("on 2", "on "), good.replace("on 2", "on (2)"),
        ]
        for text in wrong:
            refused(self, BadText, {"text": text}, read_entrance, BOX, text)

    def test_no_string(self):
        for thing in NO_TEXTS:
            for read in (read_ratio, read_box, read_slope, read_row):
                refused(self, BadText, {"text": thing}, read, thing)
            for read in (read_place, read_entrance):
                refused(self, BadText, {"text": thing}, read, BOX, thing)
        for read in (read_place, read_entrance):
            refused(self, BadText, {"text": "(" * 2001}, read, BOX, "(" * 2001)


if __name__ == "__main__":
    unittest.main()
