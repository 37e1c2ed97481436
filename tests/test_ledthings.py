"""Rays and lanes are led along when their box is turned, mirrored or scaled."""

import unittest

from helping import BOXES, SLOPES, entrances
from tautparcel.along import all_hows, led_box, led_direction, led_face, led_place, led_slope, scaled_box
from tautparcel.boxes import Box
from tautparcel.lanes import lanes_of
from tautparcel.rays import ray_of


class LedThings(unittest.TestCase):
    def test_rays_are_led_along(self):
        for box in BOXES[1:5]:
            where, face, direction = entrances(box, (2, 1), 2)[7]
            for how in all_hows()[::7]:
                passes = ray_of(box, where, face, direction, 12)
                told = [(led_face(p.face, how), led_place(box, p.end, how), p.length) for p in passes]
                led = ray_of(
                    led_box(box, how), led_place(box, where, how), led_face(face, how),
                    led_direction(face, direction, how), 12,
                )
                self.assertEqual([(p.face, p.end, p.length) for p in led], told)

    def test_lanes_are_led_along(self):
        for box in BOXES[3:6]:
            for slope in SLOPES[:4]:
                told = sorted((lane.length, lane.breadth) for lane in lanes_of(box, slope))
                for how in all_hows()[::11]:
                    led = lanes_of(led_box(box, how), led_slope(slope, how))
                    self.assertEqual(sorted((lane.length, lane.breadth) for lane in led), told)

    def test_scaled_lanes(self):
        for size in (2, 5):
            lanes, larger = lanes_of(Box((2, 3, 5)), (2, 1)), lanes_of(scaled_box(Box((2, 3, 5)), size), (2, 1))
            for lane, other in zip(lanes, larger):
                self.assertEqual(other.faces, lane.faces)
                self.assertEqual((other.length, other.breadth), (size * lane.length, size * lane.breadth))


if __name__ == "__main__":
    unittest.main()
