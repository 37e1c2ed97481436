import unittest

from helping import (
    NO_NUMBERS, as_lists, check_result, faces_with, moments_by_walking, number, only_tuples, place, places_met, point,
    ratio, refused,
)
from test_lanes import some_lanes
from tautparcel.along import all_hows, led_box, led_direction, led_face, led_place, scaled_box, scaled_place
from tautparcel.boxes import Box
from tautparcel.crossings import Crossing, check_lot, crossings_between, crossings_of, strands_at
from tautparcel.errors import BadLot, BadPlace, OtherBox, OtherSlope, SameRibbon, TooMany
from tautparcel.lanes import lanes_of
from tautparcel.places import place_of_corner
from tautparcel.ribbons import back_ribbon, ribbon_begun, ribbon_of, same_ribbon
from tautparcel.wherelane import lane_of, middle_ribbon, ribbon_in

CUBE = Box((1, 1, 1))
BOX = Box((2, 3, 5))
FULL = Box((9, 7, 9))
KNOWN = []


def some_couples():
    """Couples of unlike ribbons of one slope, of one lane, of twins and of other lanes, begun anywhere."""
    if not KNOWN:
        for lanes in some_lanes()[::4]:
            for index, lane in enumerate(lanes):
                one = middle_ribbon(lane)
                mates = [ribbon_in(lane, (1, 3)), back_ribbon(ribbon_in(lanes.lanes[index ^ 1], (1, 4)))]
                mates.append(middle_ribbon(lanes.lanes[index - 2]))
                mates.append(ribbon_in(lanes.lanes[(index + 3) % len(lanes)], (1, 7)))
                for at, mate in enumerate(mates):
                    if len(one) + len(mate) <= 90 and not same_ribbon(one, mate):
                        KNOWN.append((lanes, ribbon_begun(one, at), ribbon_begun(mate, (at * 3) % len(mate))))
    return KNOWN


def judged(ribbon, places, mate=None):
    """Crossings at places, their moments found by walking along both ribbons."""
    found = []
    for where in places:
        moments = moments_by_walking(ribbon, where)
        if mate is not None:
            moments += moments_by_walking(mate, where)
        found.append((place(*where), *[ratio(moment) for moment in moments]))
    return found


def told(crossings):
    return [(crossing.place, crossing.first, crossing.second) for crossing in crossings]


class OfOne(unittest.TestCase):
    def test_by_chords(self):
        edges = some = 0
        for lanes in some_lanes()[::3]:
            for lane in lanes:
                if len(lane.faces) > 60:
                    continue
                for index, ribbon in enumerate((middle_ribbon(lane), ribbon_in(lane, (1, 3)))):
                    ribbon = ribbon_begun(ribbon, 3 * index)
                    found = crossings_of(ribbon)
                    self.assertEqual(told(found), judged(ribbon, places_met(ribbon.passes)))
                    self.assertTrue(only_tuples(found))
                    for crossing in found:
                        self.assertLess(number(crossing.first), number(crossing.second))
                        self.assertTrue(only_tuples(crossing.place))
                        edges += len(faces_with(lanes.box.sides, point(crossing.place))) == 2
                        some += 1
        self.assertGreater(edges, 20)
        self.assertGreater(some, 1000)

    def test_none(self):
        self.assertEqual(crossings_of(middle_ribbon(lanes_of(CUBE, (1, 1)).lanes[0])), ())
        self.assertEqual(crossings_of(middle_ribbon(lanes_of(BOX, (1, 0)).lanes[0])), ())

    def test_begun_at_a_crossing_on_an_edge(self):
        """The moment there is 0, not the length."""
        zeros = 0
        for lanes in some_lanes():
            for lane in lanes:
                ribbon = middle_ribbon(lane)
                if len(ribbon) < 120:
                    starts = [taken.start for taken in ribbon]
                    for crossing in crossings_of(ribbon):
                        if crossing.place in starts:
                            begun = ribbon_begun(ribbon, starts.index(crossing.place))
                            met = [one for one in crossings_of(begun) if one.place == crossing.place]
                            self.assertEqual(len(met), 1)
                            self.assertEqual(met[0].first, (0, 1))
                            gap = number(crossing.second) - number(crossing.first)
                            self.assertEqual(number(met[0].second), gap)
                            zeros += 1
        self.assertGreater(zeros, 20)

    def test_backwards(self):
        for _, ribbon, _ in some_couples()[::5]:
            back = {crossing.place: crossing for crossing in crossings_of(back_ribbon(ribbon))}
            first = number(ribbon.passes[0].length)
            for crossing in crossings_of(ribbon):
                other = back.pop(crossing.place)
                moments = [(first - number(moment)) % ribbon.length for moment in (crossing.first, crossing.second)]
                self.assertEqual([number(other.first), number(other.second)], sorted(moments))
            self.assertEqual(back, {})

    def test_the_same_number_in_the_whole_lane_and_its_twin(self):
        for lanes in some_lanes()[::2]:
            for index in range(0, len(lanes), 2):
                lane, twin = lanes.lanes[index:index + 2]
                if len(lane.faces) <= 200:
                    ribbons = [middle_ribbon(lane), ribbon_in(lane, (1, 3)), ribbon_in(twin, (1, 5))]
                    many = {len(crossings_of(ribbon)) for ribbon in ribbons}
                    self.assertEqual(len(many), 1)
                    for one, other in ((0, 1), (0, 2), (1, 2)):
                        self.assertEqual(len(crossings_between(ribbons[one], ribbons[other])), 2 * len(crossings_of(
                            ribbons[0])))

    def test_too_many(self):
        lane = lanes_of(FULL, (9, 7)).lanes[0]
        full = middle_ribbon(lane)
        self.assertEqual(len(full), 400)
        self.assertGreater(len(crossings_of(full)), 1000)
        other = middle_ribbon(lanes_of(FULL, (9, 7)).lanes[2])
        refused(self, TooMany, {"most": 400}, crossings_between, full, other)
        long = ribbon_of(Box((8, 9, 3)), place("1/2", "1/3", 3), 5, (5, 9, 0))
        self.assertGreater(len(long), 400)
        refused(self, TooMany, {"most": 400}, crossings_of, long)


class OfTwo(unittest.TestCase):
    def test_by_chords(self):
        many = 0
        for _, ribbon, mate in some_couples():
            found = crossings_between(ribbon, mate)
            places = places_met(ribbon.passes, mate.passes)
            self.assertEqual([crossing.place for crossing in found], [place(*where) for where in places])
            if many < 2500:
                self.assertEqual(told(found), judged(ribbon, places, mate))
            self.assertTrue(only_tuples(found))
            many += len(found)
        self.assertGreater(many, 2000)

    def test_the_other_way_round(self):
        for _, ribbon, mate in some_couples()[::7]:
            turned = [(crossing.place, crossing.second, crossing.first) for crossing in crossings_between(mate, ribbon)]
            self.assertEqual(told(crossings_between(ribbon, mate)), turned)

    def test_even_numbers(self):
        zeros = 0
        for lanes, ribbon, mate in some_couples():
            many = len(crossings_between(ribbon, mate))
            self.assertEqual(many % 2, 0)
            one, other = [lanes.number_of(lane_of(each)) // 2 for each in (ribbon, mate)]
            if one != other:
                self.assertGreaterEqual(many, 2)
            self.assertEqual(many == 0, one == other and crossings_of(ribbon) == ())
            zeros += many == 0
        self.assertGreater(zeros, 10)

    def test_the_same_for_any_two_ribbons_of_two_lanes(self):
        for lanes in some_lanes()[::3]:
            for index in range(2, len(lanes), 2):
                one, other = lanes.lanes[index], lanes.lanes[index - 2]
                if len(one.faces) + len(other.faces) <= 200:
                    ribbons = [middle_ribbon(one), ribbon_in(one, (1, 1000)), back_ribbon(ribbon_in(one, (1, 3)))]
                    mates = [middle_ribbon(other), ribbon_in(lanes.lanes[index - 1], (2, 5))]
                    many = {len(crossings_between(ribbon, mate)) for ribbon in ribbons for mate in mates}
                    self.assertEqual(len(many), 1)

    def test_on_edges(self):
        """Each place on an edge is one crossing, at the moments at which passes begin."""
        edges = 0
        for _, ribbon, mate in some_couples():
            for crossing in crossings_between(ribbon, mate):
                if len(faces_with(ribbon.box.sides, point(crossing.place))) == 2:
                    self.assertIn(crossing.place, [taken.start for taken in ribbon])
                    self.assertIn(crossing.place, [taken.start for taken in mate])
                    edges += 1
        self.assertGreater(edges, 20)

    def test_bands(self):
        box = Box((2, 3, 4))
        one = ribbon_of(box, place(1, 1, 4), 5, (1, 0, 0))
        mate = ribbon_of(box, place(1, 1, 4), 5, (0, 1, 0))
        self.assertEqual(told(crossings_between(one, mate)), [
            (place(1, 1, 0), (7, 1), (9, 1)), (place(1, 1, 4), (1, 1), (1, 1)),
        ])

    def test_refused_in_order(self):
        ribbon = middle_ribbon(lanes_of(BOX, (2, 1)).lanes[0])
        lane = lanes_of(FULL, (9, 7)).lanes[0]
        full = middle_ribbon(lane)
        other = middle_ribbon(lanes_of(Box((3, 2, 5)), (1, 1)).lanes[0])
        refused(self, OtherBox, {"sides": (3, 2, 5)}, crossings_between, ribbon, other)
        mate = middle_ribbon(lanes_of(BOX, (1, 2)).lanes[0])
        refused(self, OtherSlope, {"slope": (1, 2)}, crossings_between, ribbon, mate)
        for same in (ribbon, ribbon_begun(ribbon, 5), back_ribbon(ribbon), ribbon_begun(back_ribbon(ribbon), 2)):
            refused(self, SameRibbon, {"length": ribbon.length}, crossings_between, ribbon, same)
        refused(self, SameRibbon, {"length": full.length}, crossings_between, full, ribbon_begun(full, 7))
        refused(self, TooMany, {"most": 400}, crossings_between, full, ribbon_in(lane, (1, 3)))

    def test_it_is_a_result(self):
        check_result(self, Crossing, ["place", "first", "second"])

    def test_led_along(self):
        for _, ribbon, mate in some_couples()[3::60]:
            box = ribbon.box
            found = {crossing.place: crossing for crossing in crossings_between(ribbon, mate)}
            for how in all_hows()[::7]:
                led = [
                    ribbon_of(led_box(box, how), led_place(box, first.start, how), led_face(first.face, how),
                              led_direction(first.face, first.direction, how))
                    for first in (ribbon.passes[0], mate.passes[0])
                ]
                places = {led_place(box, where, how): crossing for where, crossing in found.items()}
                crossings = crossings_between(*led)
                self.assertEqual(len(crossings), len(found))
                for crossing in crossings:
                    other = places[crossing.place]
                    self.assertEqual((crossing.first, crossing.second), (other.first, other.second))
            larger = [
                ribbon_of(scaled_box(box, 2), scaled_place(box, first.start, 2), first.face, first.direction)
                for first in (ribbon.passes[0], mate.passes[0])
            ]
            for crossing in crossings_between(*larger):
                other = found[tuple(ratio(number(entry) / 2) for entry in crossing.place)]
                self.assertEqual(number(crossing.first), 2 * number(other.first))


class Lots(unittest.TestCase):
    def test_good_ones(self):
        lanes = lanes_of(CUBE, (1, 1))
        six = [ribbon_in(lane, offset) for lane in lanes.lanes[:6:2] for offset in ((1, 3), (1, 2))]
        for many in range(1, 7):
            self.assertEqual(check_lot(six[:many]), tuple(six[:many]))
            self.assertEqual(check_lot(tuple(six[:many])), tuple(six[:many]))
        full = middle_ribbon(lanes_of(FULL, (9, 7)).lanes[0])
        self.assertEqual(check_lot([full]), (full,))

    def test_each_word(self):
        lanes = lanes_of(CUBE, (1, 1))
        one, two = middle_ribbon(lanes.lanes[0]), middle_ribbon(lanes.lanes[2])
        larger = middle_ribbon(lanes_of(Box((2, 2, 2)), (1, 1)).lanes[0])
        band = middle_ribbon(lanes_of(CUBE, (1, 0)).lanes[0])
        other = middle_ribbon(lanes_of(Box((2, 2, 2)), (1, 2)).lanes[0])
        for call in (check_lot, lambda lot: strands_at(lot, None)):
            for lot in (None, 5, "ab", {}, (), [], [one] * 7, one):
                refused(self, BadLot, {"index": 0, "what": "many"}, call, lot)
            refused(self, BadLot, {"index": 1, "what": "box"}, call, [one, larger])
            refused(self, BadLot, {"index": 2, "what": "box"}, call, [one, two, other])
            refused(self, BadLot, {"index": 1, "what": "slope"}, call, (one, band, larger))
            refused(self, BadLot, {"index": 1, "what": "same"}, call, (one, one))
            refused(self, BadLot, {"index": 2, "what": "same"}, call, [one, two, back_ribbon(one), band])
            refused(self, BadLot, {"index": 2, "what": "same"}, call, [one, two, ribbon_begun(two, 3), two])
            refused(self, BadLot, {"index": 1, "what": "same"}, call, [one, middle_ribbon(lanes.lanes[1])])

    def test_too_many_comes_last(self):
        lane = lanes_of(FULL, (9, 7)).lanes[0]
        full, other = middle_ribbon(lane), ribbon_in(lane, (1, 3))
        refused(self, TooMany, {"most": 400}, check_lot, [full, other])
        refused(self, BadLot, {"index": 2, "what": "same"}, check_lot, [full, other, full])
        refused(self, TooMany, {"most": 400}, strands_at, [full, other], None)


class Strands(unittest.TestCase):
    def test_by_walking(self):
        seen = {}
        for _, ribbon, mate in some_couples()[::4]:
            crossings = [*crossings_between(ribbon, mate), *crossings_of(ribbon), *crossings_of(mate)]
            places = [crossing.place for crossing in crossings[::5]] + [ribbon.passes[1].start, mate.passes[0].end]
            for where in places + [place(1, "1/3", 0), place(0, 0, "1/7")]:
                found = strands_at([ribbon, mate], as_lists(where))
                judged_here = []
                for index, each in enumerate((ribbon, mate)):
                    judged_here += [(index, ratio(m)) for m in moments_by_walking(each, point(where))]
                self.assertEqual(found, tuple(judged_here))
                self.assertTrue(only_tuples(found))
                self.assertEqual(strands_at((ribbon,), where), tuple(row for row in found if row[0] == 0))
                seen[tuple(row[0] for row in found)] = True
        self.assertEqual(sorted(seen), [(), (0,), (0, 0), (0, 1), (1,), (1, 1)])

    def test_none_at_corners(self):
        for _, ribbon, mate in some_couples()[::9]:
            for corner in range(8):
                self.assertEqual(strands_at([ribbon, mate], place_of_corner(ribbon.box, corner)), ())

    def test_places_refused(self):
        ribbon = middle_ribbon(lanes_of(BOX, (2, 1)).lanes[0])
        for where in NO_NUMBERS + [(1, 2, 3), place(1, 1, 1), place(1, 1), ((1, 10 ** 13), (0, 1), (0, 1))]:
            refused(self, BadPlace, {"place": where}, strands_at, [ribbon], where)


if __name__ == "__main__":
    unittest.main()
