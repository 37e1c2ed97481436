import unittest

from helping import NO_NUMBERS, check_result, only_tuples, refused
from test_borders import all_begun, passed_corners
from test_lanes import some_lanes
from test_lanesums import by_hand
from tautparcel.along import all_hows, keeps_sense, led_box, led_corner, led_face, led_row, led_slope
from tautparcel.borders import Border, all_borders, border_of, twin_border, way_after
from tautparcel.boxes import Box
from tautparcel.cornerways import all_corner_ways, back_way, corner_direction, corner_way
from tautparcel.errors import BadNumber
from tautparcel.facerows import least_begun
from tautparcel.lanes import Strip, lane_of_strip, lanes_of, twin_of
from tautparcel.places import place_of_corner
from tautparcel.slopes import sideways
from tautparcel.taut import slide_of
from tautparcel.webs import Link, borders_of, lanes_beside, web_lots, web_of

CUBE = Box((1, 1, 1))
BOX = Box((2, 3, 5))


def no_bands():
    return [lanes for lanes in some_lanes() if lanes.slope != (1, 0)]


class Beside(unittest.TestCase):
    def test_by_unit_strips(self):
        for lanes in no_bands()[::5]:
            box = lanes.box
            for way in all_corner_ways(box, lanes.slope):
                direction = corner_direction(way.start, way.face, lanes.slope)
                side = sideways(way.face, direction, place_of_corner(box, way.start))[0]
                left = lane_of_strip(box, Strip(way.face, direction, side, side + 1))
                right = lane_of_strip(box, Strip(way.face, direction, side - 1, side))
                told = (lanes.number_of(left), lanes.number_of(right))
                self.assertEqual(lanes_beside(lanes, way), told)
                self.assertIs(type(lanes_beside(lanes, way)), tuple)

    def test_made_by_hand(self):
        for lanes in no_bands()[::7]:
            held = by_hand(lanes)
            for way in all_corner_ways(lanes.box, lanes.slope):
                told = tuple(len(lanes) - 1 - number for number in lanes_beside(lanes, way))
                self.assertEqual(lanes_beside(held, way), told)

    def test_they_may_be_one(self):
        one = 0
        for lanes in no_bands():
            one += len([link for link in web_of(lanes) if link.left == link.right])
        self.assertGreater(one, 0)

    def test_the_same_lane_all_along_a_border(self):
        for lanes in no_bands()[::2]:
            for way in all_corner_ways(lanes.box, lanes.slope)[::3]:
                left, right = lanes_beside(lanes, way)
                self.assertEqual(lanes_beside(lanes, way_after(way, "left"))[0], left)
                self.assertEqual(lanes_beside(lanes, way_after(way, "right"))[1], right)


class BordersOf(unittest.TestCase):
    def test_the_ways_that_have_the_lane_beside(self):
        for lanes in no_bands()[::2]:
            for held in (lanes, by_hand(lanes)):
                links = web_of(held)
                for number, lane in enumerate(held.lanes):
                    left, right = borders_of(held, number)
                    self.assertEqual({way.key for way in left.ways}, {k.way for k in links if k.right == number})
                    self.assertEqual({way.key for way in right.ways}, {k.way for k in links if k.left == number})
                    self.assertEqual((left.side, right.side), ("right", "left"))
                    self.assertEqual((left.length, right.length), (lane.length, lane.length))
                    self.assertEqual(left, border_of(left.ways[-1], "right"))
                    self.assertEqual(right, border_of(right.ways[-1], "left"))

    def test_each_border_once(self):
        for lanes in no_bands()[::3]:
            couples = [borders_of(lanes, number) for number in range(len(lanes))]
            for index, side in ((0, "right"), (1, "left")):
                told = sorted(couple[index].ways[0].key for couple in couples)
                self.assertEqual(told, [border.ways[0].key for border in all_borders(lanes.box, lanes.slope, side)])

    def test_twins(self):
        for lanes in no_bands()[::3]:
            for number in range(len(lanes)):
                left, right = borders_of(lanes, number)
                self.assertEqual(borders_of(lanes, number ^ 1), (twin_border(right), twin_border(left)))

    def test_corners_that_the_lane_passes(self):
        for lanes in no_bands()[::2]:
            for number, lane in enumerate(lanes):
                slide = slide_of(lane)
                for border, rows in zip(borders_of(lanes, number), (slide.left, slide.right)):
                    passed = passed_corners(list(rows), len(lane.faces))
                    self.assertIn(tuple(way.start for way in border.ways), all_begun(passed))

    def test_numbers_refused(self):
        lanes = lanes_of(BOX, (2, 1))
        for number in NO_NUMBERS + [-1, len(lanes)]:
            refused(self, BadNumber, {"number": number}, borders_of, lanes, number)
        self.assertIs(type(borders_of(lanes, len(lanes) - 1)), tuple)
        self.assertIs(borders_of(lanes, 0)[0].__class__, Border)


class Web(unittest.TestCase):
    def test_links(self):
        for lanes in no_bands():
            links = web_of(lanes)
            self.assertEqual([link.way for link in links], [w.key for w in all_corner_ways(lanes.box, lanes.slope)])
            self.assertTrue(only_tuples(links))
            for link in links[::5]:
                way = corner_way(lanes.box, *link.way, lanes.slope)
                self.assertEqual((link.left, link.right), lanes_beside(lanes, way))

    def test_the_twin_on_the_other_side_of_the_back_way(self):
        for lanes in no_bands():
            links = {link.way: link for link in web_of(lanes)}
            for way in all_corner_ways(lanes.box, lanes.slope):
                link, back = links[way.key], links[back_way(way).key]
                self.assertEqual(twin_of(lanes.lanes[link.left]), lanes.lanes[back.right])
                self.assertEqual(twin_of(lanes.lanes[link.right]), lanes.lanes[back.left])

    def test_one_lot_of_all_lanes(self):
        for lanes in no_bands():
            told = (tuple(range(len(lanes))),)
            self.assertEqual(web_lots(lanes), told)
            self.assertTrue(len(lanes) <= 16 and len(lanes) % 2 == 0)
        self.assertEqual(web_lots(by_hand(lanes_of(CUBE, (1, 1)))), (tuple(range(8)),))

    def test_lengths_are_those_of_the_ways(self):
        for lanes in no_bands():
            lengths = [0] * len(lanes)
            for link in web_of(lanes):
                lengths[link.left] += corner_way(lanes.box, *link.way, lanes.slope).length
            self.assertEqual(lengths, [lane.length for lane in lanes])

    def test_led_along(self):
        """Left and right are exchanged by a mirror."""
        lanes = lanes_of(BOX, (2, 3))
        for how in all_hows()[::7]:
            led = lanes_of(led_box(BOX, how), led_slope((2, 3), how))
            links = {link.way: link for link in web_of(led)}
            for link in web_of(lanes):
                way = (led_corner(link.way[0], how), led_face(link.way[1], how))
                left, right = [lanes.lanes[number] for number in (link.left, link.right)]
                couple = [led.lanes[number] for number in (links[way].left, links[way].right)]
                sides = [left, right] if keeps_sense(how) else [right, left]
                told = [least_begun(led_row(lane.faces, how)) for lane in sides]
                self.assertEqual([lane.faces for lane in couple], told)

    def test_it_is_a_result(self):
        check_result(self, Link, ["left", "right", "way"])


if __name__ == "__main__":
    unittest.main()
