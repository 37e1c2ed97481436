import unittest

from helping import BOXES, NO_NUMBERS, SLOPES, as_lists, entrances, only_tuples, place, point, ratio, refused, traced
from tautparcel.boxes import Box, faces_of_corner
from tautparcel.cornerways import corner_direction
from tautparcel.errors import BadCount, BadDirection, BadFace, BadPlace, BadStart, TooMany
from tautparcel.places import corner_number, place_of_corner
from tautparcel.rays import MeetsCorner, corner_ahead, most_passes, ray_of
from tautparcel.slopes import back_of
from tautparcel.steps import check_entrance

BOX = Box((2, 3, 5))


class Rays(unittest.TestCase):
    def test_yields_passes(self):
        passes = list(ray_of(BOX, place("1/2", 1, 5), 5, (1, 2, 0), 4))
        self.assertEqual([taken.face for taken in passes], [5, 3, 1, 4])
        self.assertEqual(passes[0].start, place("1/2", 1, 5))
        self.assertTrue(only_tuples(tuple(tuple(vars(taken).values()) for taken in passes)))
        listed = list(ray_of(BOX, as_lists(place("1/2", 1, 5)), 5, [1, 2, 0], 4))
        self.assertEqual(listed, passes)

    def test_against_vectors(self):
        for box in BOXES:
            for slope in SLOPES + [(1, 0)]:
                for where, face, direction in entrances(box, slope, 1)[::9]:
                    rows = traced(box.sides, point(where), face, direction, 40)
                    passes = list(ray_of(box, where, face, direction, 40))
                    self.assertEqual(
                        [(p.face, p.direction, point(p.start), point(p.end), p.length) for p in passes],
                        [(*row[:4], ratio(row[4])) for row in rows],
                    )

    def test_counts(self):
        self.assertEqual(list(ray_of(BOX, place("1/2", 1, 5), 5, (1, 2, 0), 0)), [])
        for many in (1, 2, 7):
            self.assertEqual(len(list(ray_of(BOX, place("1/3", 1, 5), 5, (1, 2, 0), many))), many)
        self.assertEqual(len(list(ray_of(BOX, place("1/3", 1, 5), 5, (1, 2, 0), 20000))), 20000)
        for count in NO_NUMBERS + [-1, 20001]:
            refused(self, BadCount, {"count": count}, ray_of, BOX, place("1/2", 1, 5), 5, (1, 2, 0), count)

    def test_ends_at_a_corner(self):
        passes = list(ray_of(BOX, place(0, 0, 5), 5, (2, 3, 0), 9))
        self.assertEqual(len(passes), 1)
        self.assertEqual(passes[0].end, place(2, 3, 5))

    def test_order_of_errors(self):
        refused(self, BadPlace, {"place": 1}, ray_of, BOX, 1, 6, None, -1)
        refused(self, BadFace, {"face": 6}, ray_of, BOX, place(0, 1, 1), 6, None, -1)
        refused(self, BadDirection, {"what": "kind"}, ray_of, BOX, place(0, 1, 1), 0, None, -1)
        refused(self, BadStart, {"what": "out"}, ray_of, BOX, place(0, 0, 1), 0, (0, -1, 1), -1)
        refused(self, BadCount, {"count": True}, ray_of, BOX, place(0, 1, 1), 0, (0, -1, 1), True)


class MostPasses(unittest.TestCase):
    def test_number(self):
        self.assertEqual(most_passes(BOX, (1, 2)), 120)
        self.assertEqual(most_passes(BOX, [1, 0]), 40)
        self.assertEqual(most_passes(BOX, (0, 0)), 0)
        self.assertEqual(most_passes(BOX, (1000, 1)), 40040)

    def test_none_has_more(self):
        for box in BOXES[:6]:
            for slope in SLOPES:
                for where, face, direction in entrances(box, slope, 2)[::3]:
                    found = corner_ahead(box, where, face, direction)
                    if found is not None:
                        self.assertLessEqual(found.passes, most_passes(box, slope))


class CornerAhead(unittest.TestCase):
    def test_meets(self):
        self.assertEqual(corner_ahead(BOX, place(0, 0, 5), 5, (2, 3, 0)), MeetsCorner(7, (1, 1), 1))
        found = corner_ahead(BOX, as_lists(place(1, "3/2", 5)), 5, [2, 3, 0])
        self.assertEqual(found, MeetsCorner(7, (1, 2), 1))
        self.assertEqual(vars(found), {"corner": 7, "length": (1, 2), "passes": 1})
        self.assertIsNone(corner_ahead(BOX, place("1/3", 1, 5), 5, (1, 0, 0)))

    def test_against_vectors(self):
        met = 0
        for box in BOXES:
            for slope in SLOPES[:5] + [(1, 0)]:
                for where, face, direction in entrances(box, slope, 2)[::19]:
                    rows = traced(box.sides, point(where), face, direction, most_passes(box, slope) + 1)
                    found = corner_ahead(box, where, face, direction)
                    if found is None:
                        self.assertEqual(len(rows), most_passes(box, slope) + 1)
                        self.assertTrue([row for row in rows[1:] if row[:2] == (face, direction)])
                        continue
                    met += 1
                    self.assertEqual(found.passes, len(rows))
                    self.assertEqual(found.length, ratio(sum(row[4] for row in rows)))
                    self.assertEqual(corner_number(box, tuple(ratio(value) for value in rows[-1][3])), found.corner)
        self.assertGreater(met, 100)

    def test_backwards_too(self):
        for box in BOXES:
            for slope in SLOPES + [(1, 0)]:
                for where, face, direction in entrances(box, slope, 2)[::7]:
                    try:
                        check_entrance(box, where, face, back_of(face, direction))
                    except BadStart:
                        continue
                    ahead = corner_ahead(box, where, face, direction)
                    behind = corner_ahead(box, where, face, back_of(face, direction))
                    self.assertEqual(ahead is None, behind is None)

    def test_bands_meet_none(self):
        for box in BOXES:
            for where, face, direction in entrances(box, (1, 0), 2):
                self.assertIsNone(corner_ahead(box, where, face, direction))

    def test_from_a_corner(self):
        for box in BOXES:
            for slope in SLOPES:
                for corner in range(8):
                    for face in faces_of_corner(corner):
                        direction = corner_direction(corner, face, slope)
                        found = corner_ahead(box, place_of_corner(box, corner), face, direction)
                        self.assertEqual(found.length[1], 1)

    def test_too_many(self):
        box = Box((1, 2, 2))
        self.assertEqual(most_passes(box, (999, 1)), 20000)
        self.assertIsInstance(corner_ahead(box, place(0, 0, 0), 4, (999, 1, 0)), MeetsCorner)
        self.assertIsNone(corner_ahead(box, place("1/2", "1/3", 0), 4, (999, -1, 0)))
        refused(self, TooMany, {"most": 20000}, corner_ahead, box, place(0, 0, 0), 4, (1000, 1, 0))
        refused(self, TooMany, {"most": 20000}, corner_ahead, box, place("1/2", 1, 0), 4, (-1, 1000, 0))
        refused(self, BadStart, {"what": "out"}, corner_ahead, box, place(0, 0, 0), 4, (-1, 1000, 0))
        refused(self, BadStart, {"what": "along"}, corner_ahead, box, place(0, 0, 0), 4, (0, 1, 0))

    def test_directions_above_nine(self):
        rows = traced((2, 3, 5), point(place(0, 0, 0)), 4, (17, 12, 0), 3000)
        found = corner_ahead(BOX, place(0, 0, 0), 4, (17, 12, 0))
        self.assertEqual((found.passes, found.length), (len(rows), ratio(sum(row[4] for row in rows))))

    def test_great_bottoms(self):
        where = ((1, 10 ** 12), (1, 10 ** 12 - 1), (0, 1))
        self.assertIsNone(corner_ahead(BOX, where, 4, (3, 2, 0)))
        great = 10 ** 12 - 11
        where = ((2, great), (3, great), (0, 1))
        self.assertEqual(corner_ahead(BOX, where, 4, (2, 3, 0)), MeetsCorner(6, (great - 1, great), 1))

    def test_it_is_a_result(self):
        made = MeetsCorner("a", [1], None)
        self.assertEqual(list(vars(made).items()), [("corner", "a"), ("length", [1]), ("passes", None)])
        self.assertTrue(made == MeetsCorner("a", [1], None))
        for other in (MeetsCorner("b", [1], None), MeetsCorner("a", 1, None), MeetsCorner("a", [1], 1), None, 7):
            self.assertTrue(made != other)


if __name__ == "__main__":
    unittest.main()
