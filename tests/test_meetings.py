import unittest
from fractions import Fraction

from helping import (
    BOXES, NO_NUMBERS, SLOPES, check_result, number, only_tuples, place, places_met, point, ratio, refused,
)
from test_farplaces import BAD_LENGTHS, FAR, walked
from test_shades import long_ribbon
from tautparcel.boxes import Box
from tautparcel.crossings import crossings_of
from tautparcel.errors import BadBeat, BadTime, BadWalk, OtherBox, TooMany
from tautparcel.farplaces import place_after, when_at
from tautparcel.lanes import lanes_of
from tautparcel.meetings import Meeting, Walk, common_time, meet_when, walk_at
from tautparcel.ribbons import back_ribbon, ribbon_begun, ribbon_of
from tautparcel.wherelane import middle_ribbon, ribbon_in

CUBE = Box((1, 1, 1))
BOX = Box((2, 3, 5))


class Numbers:
    """Numbers that look like drawn ones, the same in each run."""
    def __init__(self):
        self.now = 12345

    def below(self, many):
        self.now = (self.now * 1103515245 + 12345) % 2 ** 31
        return (self.now >> 8) % many

    def fraction(self, least, most):
        bottom = (1, 1, 2, 3, 6)[self.below(5)]
        return Fraction(least * bottom + self.below((most - least) * bottom + 1), bottom)


def common_by_trying(beat, mate):
    """The first common time, by trying the times of the first beat."""
    (first, every), (other, other_every) = beat, mate
    if every == 0:
        times = [first]
    else:
        times = [first % every + k * every for k in range(400)]
    for time in times:
        met = time == other if other_every == 0 else (time - other) % other_every == 0
        if met and time >= 0:
            return time
    return None


class Beats(unittest.TestCase):
    def test_by_trying(self):
        drawn, nones = Numbers(), 0
        for _ in range(1500):
            beat = (drawn.fraction(-5, 5), drawn.fraction(0, 4) if drawn.below(4) else Fraction(0))
            mate = (drawn.fraction(-5, 5), drawn.fraction(0, 4) if drawn.below(4) else Fraction(0))
            told = common_by_trying(beat, mate)
            found = common_time([list(ratio(beat[0])), ratio(beat[1])], (ratio(mate[0]), list(ratio(mate[1]))))
            self.assertEqual(None if found is None else number(found), told, (beat, mate))
            nones += found is None
        self.assertTrue(250 < nones < 1250)

    def test_single_times(self):
        zero, third = ((0, 1), (0, 1)), ((1, 3), (0, 1))
        self.assertEqual(common_time(zero, zero), (0, 1))
        self.assertEqual(common_time(third, third), (1, 3))
        self.assertIsNone(common_time(third, zero))
        self.assertIsNone(common_time(((-1, 3), (0, 1)), ((-1, 3), (0, 1))))
        self.assertIsNone(common_time(((-1, 3), (0, 1)), ((-1, 3), (2, 1))))
        self.assertIsNone(common_time(((-1, 3), (2, 1)), ((-1, 3), (0, 1))))
        self.assertEqual(common_time(third, ((-5, 3), (2, 1))), (1, 3))
        self.assertEqual(common_time(((7, 1), (2, 1)), third), None)
        self.assertEqual(common_time(((7, 3), (1, 2)), third), (1, 3))

    def test_far_ones(self):
        # 5 + k * F is 6 modulo F + 1 for k = F, as F is -1 there.
        self.assertEqual(common_time(((5, 1), (FAR, 1)), ((6, 1), (FAR + 1, 1))), (5 + FAR * FAR, 1))
        self.assertIsNone(common_time(((0, 1), (2 * FAR, 1)), ((1, 1), (2, 1))))
        self.assertEqual(common_time(((-7, 1), (3, 1)), ((-7, 1), (5, 1))), (8, 1))
        self.assertTrue(only_tuples(common_time([[1, 1], [2, 1]], [[1, 1], [3, 1]])))

    def test_refused_in_order(self):
        good, bad = ((1, 2), (3, 1)), (None, None)
        for thing in NO_NUMBERS[:5] + ["ab", (), (good[0],), (*good, good[0]), {}]:
            refused(self, BadBeat, {"index": 0, "what": "couple"}, common_time, thing, None)
            refused(self, BadBeat, {"index": 1, "what": "couple"}, common_time, good, thing)
        for first in NO_NUMBERS[:5] + [(2, 4), (1, 0), (True, 1), 5]:
            refused(self, BadBeat, {"index": 0, "what": "first"}, common_time, (first, None), bad)
            refused(self, BadBeat, {"index": 1, "what": "first"}, common_time, good, [first, None])
        for every in NO_NUMBERS[:5] + [(2, 4), (1, 0), (-1, 2), (1, True), 5]:
            refused(self, BadBeat, {"index": 0, "what": "every"}, common_time, ((1, 2), every), bad)
            refused(self, BadBeat, {"index": 1, "what": "every"}, common_time, good, ((1, 2), every))


class Walks(unittest.TestCase):
    def test_attributes(self):
        ribbon = middle_ribbon(lanes_of(CUBE, (1, 1)).lanes[0])
        walk = Walk(ribbon, [-1, 2], 1000)
        self.assertEqual(list(vars(walk)), ["ribbon", "start", "pace"])
        self.assertEqual((walk.ribbon, walk.start, walk.pace), (ribbon, (-1, 2), 1000))
        self.assertIs(type(walk.start), tuple)
        self.assertTrue(walk == Walk(ribbon, (-1, 2), 1000))
        for other in (Walk(back_ribbon(ribbon), (-1, 2), 1000), Walk(ribbon, (1, 2), 1000), Walk(ribbon, (-1, 2), 999)):
            self.assertTrue(walk != other)
            self.assertIs(walk == other, False)
        for thing in (None, 5, ribbon, (ribbon, (-1, 2), 1000)):
            self.assertIs(walk == thing, False)

    def test_refused_in_order(self):
        ribbon = middle_ribbon(lanes_of(CUBE, (1, 1)).lanes[0])
        for start in BAD_LENGTHS:
            refused(self, BadWalk, {"what": "start"}, Walk, ribbon, start, None)
        for pace in NO_NUMBERS + [1001, -1001]:
            refused(self, BadWalk, {"what": "pace"}, Walk, ribbon, (1, 2), pace)
        for pace in (0, 1000, -1000):
            self.assertEqual(Walk(ribbon, (FAR, 1), pace).pace, pace)

    def test_walk_at(self):
        for index, lane in enumerate(lanes_of(BOX, (2, 1))):
            ribbon = ribbon_begun(ribbon_in(lane, (1, 3)), index)
            for start in (Fraction(0), Fraction(-7, 3), Fraction(FAR)):
                for pace in (0, 3, -2, 1000, -1000):
                    walk = Walk(ribbon, ratio(start), pace)
                    for time in (Fraction(0), Fraction(5, 7), Fraction(FAR), Fraction(1, FAR)):
                        found = walk_at(walk, list(ratio(time)))
                        self.assertEqual(found, walked(ribbon, start + pace * time))

    def test_times_refused(self):
        walk = Walk(middle_ribbon(lanes_of(CUBE, (1, 1)).lanes[0]), (0, 1), 2)
        for time in BAD_LENGTHS + [(-1, 2), (-1, FAR), (-1, 1)]:
            refused(self, BadTime, {"time": time}, walk_at, walk, time)


def simulated(walker, mate, until):
    """The first time up to the bound at which two walks are at one place, from pass to pass, by Fractions."""
    time = Fraction(0)
    while time <= until:
        states = [state(walk, time) for walk in (walker, mate)]
        end = min([until] + [time + state[2] for state in states if state[2] is not None])
        (one, speed, _), (other, other_speed, _) = states
        met = [time, end] if one == other and speed == other_speed else []
        for axis in range(3):
            if speed[axis] != other_speed[axis]:
                met.append(time + (other[axis] - one[axis]) / (speed[axis] - other_speed[axis]))
        for moment in sorted(met):
            gone = moment - time
            if time <= moment <= end and all(
                a + gone * v == b + gone * w for a, v, b, w in zip(one, speed, other, other_speed)
            ):
                return moment
        if end == until:
            return None
        time = end
    return None


def state(walk, time):
    """The place of a walk, its speed over the axes, and how long it goes on so, or None."""
    length = number(walk.start) + walk.pace * time
    found = walked(walk.ribbon, length)
    taken = walk.ribbon.passes[found.index]
    begun = sum(number(p.length) for p in walk.ribbon.passes[:found.index])
    gone = length % walk.ribbon.length - begun
    if walk.pace < 0 and gone == 0:
        taken = walk.ribbon.passes[found.index - 1]
        gone = number(taken.length)
    speed = tuple(walk.pace * step for step in taken.direction)
    if walk.pace == 0:
        return (point(found.place), speed, None)
    rest = (number(taken.length) - gone) / walk.pace if walk.pace > 0 else gone / -walk.pace
    return (point(found.place), speed, rest)


class Meetings(unittest.TestCase):
    def check(self, walker, mate, until):
        found = meet_when(walker, mate)
        told = simulated(walker, mate, Fraction(until))
        if found is None:
            self.assertIsNone(told)
        else:
            self.assertTrue(only_tuples((found.time, found.place)))
            one, other = [walk.ribbon for walk in (walker, mate)]
            for walk, ribbon in ((walker, one), (mate, other)):
                far = walked(ribbon, number(walk.start) + walk.pace * number(found.time))
                self.assertEqual(far.place, found.place)
            self.assertEqual(told, number(found.time) if number(found.time) <= until else None)
        self.assertEqual(meet_when(mate, walker), found)
        return (found is None, told is not None)

    def test_two_ribbons(self):
        drawn, seen = Numbers(), {}
        for _ in range(120):
            box = BOXES[drawn.below(5)]
            ribbons = []
            for _ in range(2):
                lanes = lanes_of(box, (SLOPES[:4] + [(1, 0)])[drawn.below(5)])
                ribbon = middle_ribbon(lanes.lanes[drawn.below(len(lanes))])
                ribbons.append(ribbon_begun(ribbon, drawn.below(len(ribbon))))
            walks = [Walk(each, ratio(drawn.fraction(-4, 9)), drawn.below(7) - 3) for each in ribbons]
            seen[self.check(*walks, 12)] = True
        self.assertEqual(sorted(seen), [(False, False), (False, True), (True, False)])

    def test_one_ribbon(self):
        drawn, seen = Numbers(), {}
        for _ in range(150):
            lanes = lanes_of(BOXES[drawn.below(5)], SLOPES[drawn.below(4)])
            ribbon = middle_ribbon(lanes.lanes[drawn.below(len(lanes))])
            mate = back_ribbon(ribbon) if drawn.below(2) else ribbon
            mate = ribbon_begun(mate, drawn.below(len(mate)))
            walks = [Walk(each, ratio(drawn.fraction(-4, 9)), drawn.below(7) - 3) for each in (ribbon, mate)]
            seen[self.check(*walks, 12)] = True
        self.assertIn((False, True), seen)
        self.assertIn((True, False), seen)

    def test_reaching(self):
        ribbon = middle_ribbon(lanes_of(CUBE, (1, 1)).lanes[2])
        self.assertEqual(crossings_of(ribbon), ())
        one = Walk(ribbon, (0, 1), 3)
        self.assertEqual(meet_when(one, Walk(ribbon, (1, 1), 1)), Meeting((1, 2), place_after(ribbon, (3, 2)).place))
        self.assertEqual(meet_when(one, Walk(ribbon, (1, 1), 4)).time, (2, 1))
        self.assertEqual(meet_when(one, Walk(ribbon, (1, 1), -1)).time, (1, 4))
        self.assertEqual(meet_when(one, Walk(ribbon, (1, 1), 0)).time, (1, 3))
        self.assertIsNone(meet_when(one, Walk(ribbon, (1, 1), 3)))
        self.assertEqual(meet_when(one, Walk(ribbon, (6, 1), 3)).time, (0, 1))
        self.assertIsNone(meet_when(Walk(ribbon, (0, 1), 0), Walk(ribbon, (1, 1), 0)))
        self.assertEqual(meet_when(Walk(ribbon, (0, 1), 0), Walk(ribbon, (-3, 1), 0)).time, (0, 1))
        # Against each other: the mate's place is that of the ribbon at the end of its first pass, less the length.
        back = back_ribbon(ribbon)
        first = number(ribbon.passes[0].length)
        found = meet_when(Walk(ribbon, (0, 1), 1), Walk(back, (0, 1), 1))
        self.assertEqual(number(found.time), first / 2)
        self.assertIsNone(meet_when(Walk(ribbon, (0, 1), 1), Walk(back, (0, 1), -1)))
        apart = Walk(back, ratio(first), -1)
        self.assertEqual(meet_when(Walk(ribbon, (0, 1), 1), apart).time, (0, 1))

    def test_where_the_ribbon_crosses_itself(self):
        """Two that keep their distance on one ribbon meet only there."""
        ribbon = middle_ribbon(lanes_of(Box((1, 1, 2)), (1, 1)).lanes[0])
        crossings = crossings_of(ribbon)
        self.assertGreater(len(crossings), 1)
        for crossing in crossings:
            gap = number(crossing.second) - number(crossing.first)
            walker, mate = Walk(ribbon, (0, 1), 1), Walk(ribbon, ratio(gap), 1)
            found = meet_when(walker, mate)
            self.assertIn(found.place, [one.place for one in crossings])
            self.assertLessEqual(number(found.time), number(crossing.first))
            stands = Walk(ribbon, crossing.second, 0)
            found = meet_when(Walk(ribbon, (0, 1), 1), stands)
            self.assertEqual(found, Meeting(crossing.first, crossing.place))

    def test_at_the_start(self):
        one, other = [middle_ribbon(lane) for lane in lanes_of(CUBE, (1, 1)).lanes[:3:2]]
        band = middle_ribbon(lanes_of(CUBE, (1, 0)).lanes[0])
        for mate in (other, band):
            for paces in ((1, 1), (0, 5), (-1000, 1000), (0, 0)):
                found = meet_when(Walk(one, (0, 1), 7), Walk(mate, (0, 1), 0))
                if found is not None:
                    start = number(found.time) * 7 % one.length
                    met = meet_when(Walk(one, ratio(start), paces[0]), Walk(mate, (0, 1), paces[1]))
                    self.assertEqual(met, Meeting((0, 1), found.place))

    def test_fast_ones(self):
        one, other = [middle_ribbon(lane) for lane in lanes_of(CUBE, (1, 1)).lanes[:3:2]]
        self.check(Walk(one, (1, 7), 1000), Walk(other, (2, 11), -999), Fraction(1, 9))
        self.check(Walk(one, (FAR, 1), 1000), Walk(one, (-FAR, 1), -1000), Fraction(1, 99))

    def test_steep_ones(self):
        steep = ribbon_of(CUBE, place("1/3", "1/2", 1), 5, (11, 10, 0))
        band = ribbon_of(CUBE, place("1/3", "1/5", 1), 5, (1, 0, 0))
        self.check(Walk(steep, (1, 7), 1), Walk(band, (2, 11), 3), 4)
        self.check(Walk(steep, (1, 7), 1), Walk(ribbon_begun(back_ribbon(steep), 9), (2, 11), 3), 4)

    def test_very_late(self):
        """Lengths with unlike numbers: the first meeting comes after many rounds."""
        lanes = lanes_of(Box((1, 2, 3)), (1, 0))
        one, other = middle_ribbon(lanes.lanes[0]), middle_ribbon(lanes.lanes[2])
        self.assertNotEqual(one.length, other.length)
        late = 0
        for start in range(40):
            found = meet_when(Walk(one, ratio(Fraction(start, 4)), 1), Walk(other, (1, 4), 1))
            late += found is not None and number(found.time) > 2 * max(one.length, other.length)
        self.assertGreater(late, 0)

    def test_refused_in_order(self):
        ribbon = middle_ribbon(lanes_of(CUBE, (1, 1)).lanes[0])
        long = long_ribbon()
        refused(self, OtherBox, {"sides": (8, 9, 3)}, meet_when, Walk(ribbon, (0, 1), 1), Walk(long, (0, 1), 1))
        refused(self, OtherBox, {"sides": (1, 1, 1)}, meet_when, Walk(long, (0, 1), 1), Walk(ribbon, (0, 1), 1))
        band = ribbon_of(long.box, ((1, 2), (1, 2), (3, 1)), 5, (1, 0, 0))
        for couple in ((band, long), (long, band), (long, long)):
            refused(self, TooMany, {"most": 400}, meet_when, *[Walk(each, (0, 1), 1) for each in couple])
        lanes = lanes_of(Box((9, 7, 9)), (9, 7))
        full, other = middle_ribbon(lanes.lanes[0]), middle_ribbon(lanes.lanes[2])
        self.assertEqual((len(full), len(other)), (400, 400))
        where = place(*places_met(full.passes[:9], other.passes)[3])
        start = number(when_at(other, where)[0]) - number(when_at(full, where)[0])
        found = meet_when(Walk(full, (0, 1), 1), Walk(other, ratio(start), 1))
        self.assertLessEqual(number(found.time), number(when_at(full, where)[0]))
        self.assertEqual(walk_at(Walk(full, (0, 1), 1), found.time).place, found.place)

    def test_it_is_a_result(self):
        check_result(self, Meeting, ["time", "place"])


if __name__ == "__main__":
    unittest.main()
