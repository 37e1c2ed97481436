import unittest

from beltwalk import bases_and_slopes
from helping import NO_NUMBERS, check_result, number, refused
from test_belts import NO_BASES, NO_SLOPES
from tautparcel.belts import days_of
from tautparcel.calendars import Calendar, lanes_at, least_period, make_calendar, selfs_at
from tautparcel.errors import BadBase, BadHeight, BadSlope, TooMany
from tautparcel.forms import lane_forms
from tautparcel.rings import form_length


class Calendars(unittest.TestCase):
    def test_rows(self):
        for base, slope in bases_and_slopes(40):
            calendar = make_calendar(list(base), list(slope))
            self.assertEqual((calendar.base, calendar.slope, calendar.size), (base, slope, days_of(base, slope)))
            self.assertEqual(calendar.rows, tuple(lane_forms(base, slope, day) for day in range(calendar.size)))

    def test_least_period(self):
        for base, slope in bases_and_slopes(60):
            calendar = make_calendar(base, slope)
            size, rows = calendar.size, calendar.rows
            told = [k for k in range(1, size + 1)
                    if size % k == 0 and all(rows[day] == rows[(day + k) % size] for day in range(size))][0]
            self.assertEqual(least_period(calendar), told)
            if slope[0] % 2 == slope[1] % 2 == 1:
                self.assertEqual((size // 2) % told, 0)

    def test_example(self):
        calendar = make_calendar((1, 1), (1, 1))
        self.assertEqual((calendar.size, least_period(calendar)), (4, 2))

    def test_period_of_a_calendar_made_by_hand(self):
        rows = make_calendar((1, 1), (1, 1)).rows
        one, other = rows[0], rows[1]
        self.assertNotEqual(one, other)
        for row, told in (((one,) * 6, 1), ((one, other) * 3, 2), ((one, one, other) * 2, 3), ((one, other, other), 3),
                          ((one, one, other, one, one, one), 6), ((one, other, one, one, other), 5)):
            self.assertEqual(least_period(Calendar((1, 1), (1, 1), len(row), row)), told)

    def test_sixty_days(self):
        self.assertEqual(make_calendar((15, 15), (1, 1)).size, 60)
        refused(self, TooMany, {"most": 60}, make_calendar, (16, 15), (1, 1))
        refused(self, TooMany, {"most": 60}, make_calendar, (60, 60), (9, 8))

    def test_refused(self):
        for base, index in NO_BASES:
            refused(self, BadBase, {"index": index}, make_calendar, base, None)
        for slope in NO_SLOPES:
            refused(self, BadSlope, {"slope": slope}, make_calendar, (60, 60), slope)

    def test_it_is_a_result(self):
        check_result(self, Calendar, ["base", "slope", "size", "rows"])


class AtAHeight(unittest.TestCase):
    def test_lanes(self):
        for base, slope in bases_and_slopes(400):
            for height in (1, 5, 61, 1000, 10 ** 9):
                forms = lane_forms(base, slope, height % days_of(base, slope))
                told = sorted((form.breadth, form_length(slope, form, height)[0]) for form in forms)
                self.assertEqual(lanes_at(list(base), list(slope), height), tuple(told))
                area = 8 * (base[0] * base[1] + height * (base[0] + base[1]))
                self.assertEqual(sum(breadth * length for breadth, length in told), area)

    def test_crossings(self):
        for base, slope in bases_and_slopes(200):
            p, q = slope
            size = days_of(base, slope)
            for height in (1, 5, 61, 10 ** 9):
                found = selfs_at(list(base), list(slope), height)
                for many, form in zip(found, lane_forms(base, slope, height % size), strict=True):
                    told = number(form.selfs) + height * form.by_p * form.by_q * (p * p + q * q) / number((size, 1))
                    self.assertEqual(many, told)
                    self.assertIs(type(many), int)
                    self.assertGreaterEqual(many, 0)

    def test_the_cube(self):
        self.assertEqual(lanes_at((1, 1), (1, 1), 1), ((1, 3),) * 8)
        self.assertEqual(selfs_at((1, 1), (1, 1), 1), (0,) * 8)
        self.assertEqual(lanes_at((1, 1), (1, 1), 2), ((1, 10),) * 4)

    def test_refused(self):
        for call in (lanes_at, selfs_at):
            for base, index in NO_BASES:
                refused(self, BadBase, {"index": index}, call, base, None, None)
            for slope in NO_SLOPES:
                refused(self, BadSlope, {"slope": slope}, call, (60, 60), slope, None)
            for height in NO_NUMBERS + [0, -3, 10 ** 9 + 1]:
                refused(self, BadHeight, {"height": height}, call, (60, 60), (9, 8), height)
            refused(self, TooMany, {"most": 400}, call, (51, 50), (1, 2), 1)
            self.assertGreater(len(call((50, 50), (2, 1), 10 ** 9)), 1)


if __name__ == "__main__":
    unittest.main()
