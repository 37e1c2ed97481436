"""What the document promises over the whole program: the main promises, and how things are passed and compared."""

import copy
import unittest

from helping import BOXES, SLOPES, as_lists, only_tuples
from test_forms import told_or_none
from tautparcel import (
    along, arcs, belts, bench, borders, boxes, boxgoals, calendars, cornerways, counts, crossings, edits, facerows,
    farplaces, fitting, forms, goals, heights, lanes, lanesums, levels, meetings, mends, parceltext, parting, pieces,
    places, ratios, rays, ribbons, rings, shades, shortribbons, slopes, steps, stripes, surefacts, tables, taut,
    telling, through, unfolding, webs, wherelane,
)

BOX = boxes.Box((2, 3, 5))
SLOPE = [2, 1]
HOW = [[1, 2, 0], [1, -1, 1]]
PLACE = [[1, 3], [0, 1], [4, 5]]
ROW = [0, 2, 5, 1, 3, 4]
RIBBON = ribbons.ribbon_of(BOX, PLACE, 2, (2, 0, 1))
OTHER = ribbons.ribbon_of(BOX, ((1, 7), (0, 1), (2, 3)), 2, (2, 0, 1))
LANES = lanes.lanes_of(BOX, (2, 1))
LANE = LANES.lanes[0]
WAYS = cornerways.all_corner_ways(BOX, (2, 1))
STRIPES = stripes.stripes_of(RIBBON)
MARK = [[1, 3], "p"]
CHORD = as_lists(STRIPES.chords[0])
TABLE = tables.cross_table(BOX, (2, 1))
WINDING = edits.Winding(boxes.Box((1, 1, 1)), (1, 1))
POOL = [["side", 2, 1], ["turn", HOW], ["slope", 1, 2]]
GOALS = [["lanes", 4], ["no crossing"]]
ALONE = boxes.Box([1, 1, 1])

# Calls with lists wherever the document says sequence.
CALLS = [
    (boxes.Box, [2, 3, 5]), (ratios.make_ratio, 4, 6), (ratios.plus, [1, 2], [1, 3]), (ratios.over, [1, 2], [1, 3]),
    (ratios.sum_of, [[1, 2], [1, 3]]), (ratios.least_of, [[1, 2], [1, 3]]), (ratios.greatest_of, [[1, 2], [1, 3]]),
    (ratios.broken_of, [7, 2]), (ratios.negative, [1, 2]), (boxes.check_edge, [1, 0]), (boxes.faces_of_edge, [1, 0]),
    (places.check_place, BOX, PLACE), (places.faces_at, BOX, PLACE), (places.edge_of_place, BOX, PLACE),
    (places.place_on, BOX, 2, [1, 3], [1, 2]), (places.framed, 2, PLACE), (slopes.check_slope, SLOPE),
    (slopes.check_direction, 2, [2, 0, 1]), (slopes.directions_on, 2, SLOPE), (slopes.left_of, 2, [2, 0, 1]),
    (slopes.over_edge, 2, 1, [2, 0, 1]), (slopes.sideways, 2, [2, 0, 1], PLACE), (along.check_how, HOW),
    (along.joined_how, HOW, HOW), (along.led_box, BOX, HOW), (along.led_place, BOX, PLACE, HOW), (along.led_row, ROW, HOW),
    (along.led_direction, 2, [2, 0, 1], HOW), (along.led_slope, SLOPE, HOW), (along.scaled_place, BOX, PLACE, 2),
    (parceltext.place_text, BOX, PLACE), (parceltext.row_text, ROW), (steps.check_entrance, BOX, PLACE, 2, [2, 0, 1]),
    (steps.pass_from, BOX, PLACE, 2, [2, 0, 1]), (steps.whole_pass, BOX, PLACE, 2, [2, 0, 1]),
    (steps.next_start, BOX, RIBBON.passes[0]), (rays.corner_ahead, BOX, PLACE, 2, [2, 0, 1]),
    (ribbons.ribbon_of, BOX, PLACE, 2, [2, 0, 1]), (ribbons.back_ribbon, RIBBON), (ribbons.least_ribbon, RIBBON),
    (ribbons.chords_on, RIBBON, 5), (ribbons.ribbon_fault, BOX, list(RIBBON.passes)), (facerows.check_facerow, ROW),
    (facerows.begun_row, ROW, 2), (facerows.back_row, ROW), (facerows.least_row, ROW), (facerows.single_row, ROW * 2),
    (unfolding.unfold_row, ROW), (unfolding.gate_corners, ROW), (unfolding.gates_at, BOX, ROW),
    (unfolding.shift_at, BOX, ROW), (unfolding.flat_place, BOX, [2, 5, 1, 4], 0, PLACE),
    (taut.taut_row, ALONE, ROW), (taut.slide_of, LANE), (taut.entrances_in, LANE, [1, 3]), (taut.boxes_of_row, ROW, 2),
    (cornerways.corner_way, BOX, 0, 4, SLOPE), (cornerways.way_places, WAYS[0]), (cornerways.shortest_ways, BOX, SLOPE),
    (lanes.lanes_of, BOX, SLOPE), (lanes.strips_of, LANE), (lanes.twin_of, LANE),
    (lanes.check_strip, BOX, lanes.Strip(2, [2, 0, 1], -1, 1)), (lanesums.shares_of, LANE),
    (lanesums.strips_on, LANES, 2, [2, 0, 1]), (lanesums.rows_fault, BOX, SLOPE, [list(lane.faces) for lane in LANES]),
    (wherelane.lane_at, BOX, PLACE, 2, [2, 0, 1]), (wherelane.lanes_through, LANES, 2, PLACE),
    (wherelane.ribbon_in, LANE, [1, 3]), (borders.border_of, WAYS[0], "left"),
    (borders.border_fault, BOX, SLOPE, "left", [[0, 0], [1, 0]]), (webs.web_of, LANES), (webs.web_lots, LANES),
    (crossings.crossings_of, RIBBON), (crossings.check_lot, [RIBBON, OTHER]), (crossings.strands_at, [RIBBON], PLACE),
    (shades.shades_of_corners, RIBBON), (pieces.pieces_of, [RIBBON]), (pieces.piece_at, [RIBBON], [[1, 5], [0, 1], [0, 1]]),
    (arcs.arcs_of, [RIBBON]), (arcs.shades_of_pieces, [RIBBON]), (tables.cross_table, BOX, SLOPE),
    (arcs.way_apart, [RIBBON], [[0, 1], [0, 1], [0, 1]], [[2, 1], [3, 1], [5, 1]]), (tables.pieces_told, TABLE, [0, 0, 1]),
    (farplaces.place_after, RIBBON, [7, 3]), (farplaces.when_at, RIBBON, PLACE), (farplaces.times_at, RIBBON, PLACE, [9, 1]),
    (meetings.common_time, [[1, 2], [1, 3]], [[0, 1], [1, 2]]), (meetings.Walk, RIBBON, [1, 2], 3),
    (meetings.meet_when, meetings.Walk(RIBBON, [1, 2], 3), meetings.Walk(RIBBON, (0, 1), 1)),
    (counts.face_counts, ROW), (counts.edge_counts, ROW), (counts.length_by_counts, BOX, SLOPE, ROW),
    (levels.level_moments, RIBBON, 0, [1, 2]), (levels.band_ribbon, BOX, 0, [1, 2]), (shortribbons.shortest_lanes, BOX, 2),
    (through.ways_through, BOX, PLACE, SLOPE), (through.ribbons_through, BOX, PLACE, SLOPE),
    (goals.check_goal, ["lanes", 4]), (belts.check_base, [2, 3]), (belts.check_spot, [2, 3], [1, 3]),
    (belts.check_mark, [2, 3], MARK), (belts.spot_place, [2, 3], [1, 3]), (belts.place_spot, [2, 3], [[1, 3], [0, 1]]),
    (belts.belt_shift, [2, 3], SLOPE, 5, "p"), (belts.chord_from, [2, 3], SLOPE, "top", MARK),
    (rings.ring_of, [2, 3], SLOPE, 3, MARK), (forms.way_forms, [2, 3], SLOPE, 3), (forms.lane_forms, [2, 3], SLOPE, 3),
    (forms.lane_of_mark, [2, 3], SLOPE, 3, MARK), (forms.top_shows, [2, 3], SLOPE, 3),
    (calendars.make_calendar, [2, 3], SLOPE), (calendars.lanes_at, [2, 3], SLOPE, 99), (calendars.selfs_at, [2, 3], SLOPE, 99),
    (heights.height_fits, [2, 3], SLOPE, 99, ["lanes", 4]), (heights.heights_with, [2, 3], SLOPE, ["longest", 300]),
    (stripes.check_chord, [2, 3], SLOPE, CHORD), (stripes.Stripes, [2, 3], SLOPE, [CHORD]),
    (stripes.stripes_at, [2, 3], SLOPE, 5, CHORD), (stripes.stripes_of, RIBBON), (fitting.heights_that_fit, STRIPES),
    (fitting.heights_that_have, STRIPES), (fitting.misfit_at, STRIPES, 6), (surefacts.fact_at, STRIPES, ["rest", [1, 2]], 5),
    (surefacts.sure_fact, STRIPES, ["length at most", [999, 2]]), (parting.parting_chord, [2, 3], SLOPE, 5, 6),
    (telling.telling_lots, stripes.Stripes((2, 3), (2, 1), STRIPES.chords[:3])), (parting.alike_days, [2, 3], SLOPE),
    (parting.parting_fault, [2, 3], SLOPE, 5, 6, parting.Parting(CHORD, STRIPES, None)),
    (boxgoals.meets_at_box, ALONE, [1, 1], ["lanes", 8]), (boxgoals.check_goals, GOALS),
    (boxgoals.first_unmet, ALONE, [1, 1], GOALS), (boxgoals.slopes_with, ALONE, ["lanes", 8], 3),
    (boxgoals.sides_with, ALONE, [1, 1], 0, 3, ["lanes", 8]), (edits.check_edits, POOL), (edits.winding_after, WINDING, POOL),
    (mends.find_mends, WINDING, POOL, GOALS), (mends.find_spoilers, WINDING, POOL, GOALS),
    (mends.sure_goals, WINDING, POOL, GOALS), (bench.Bench, WINDING),
]


def parts_of(thing):
    """The thing with all attributes of objects in it, however deep."""
    if isinstance(thing, (list, tuple)):
        return type(thing)(parts_of(item) for item in thing)
    if hasattr(thing, "__dict__"):
        return (type(thing).__name__, tuple((name, parts_of(value)) for name, value in vars(thing).items()))
    return thing


class Passing(unittest.TestCase):
    def test_what_is_passed_is_not_changed_and_tuples_are_returned(self):
        for call, *told in CALLS:
            before = copy.deepcopy([parts_of(thing) for thing in told])
            found = call(*told)
            self.assertEqual([parts_of(thing) for thing in told], before, call.__name__)
            self.assertTrue(only_tuples(parts_of(found)), call.__name__)

    def test_what_is_returned_is_new(self):
        for call, *told in CALLS:
            lists = [copy.deepcopy(thing) if isinstance(thing, list) else thing for thing in told]
            first = call(*lists)
            known = parts_of(first)
            for thing in lists:
                self.spoil(thing)
            self.assertEqual(parts_of(first), known, call.__name__)
            if call is not bench.Bench:
                self.assertEqual(first, call(*told), call.__name__)

    def spoil(self, thing):
        if isinstance(thing, list):
            for item in thing:
                self.spoil(item)
            thing.clear()


class Compared(unittest.TestCase):
    def things(self):
        found = {}
        for call, *told in CALLS:
            self.gather(call(*told), found)
            for thing in told:
                self.gather(thing, found)
        return found

    def gather(self, thing, found):
        if isinstance(thing, (list, tuple)):
            for item in thing:
                self.gather(item, found)
        elif hasattr(thing, "__dict__"):
            held = found.setdefault(type(thing).__name__, [])
            if len(held) < 3 and thing not in held:
                held.append(thing)
            for value in vars(thing).values():
                self.gather(value, found)

    def test_only_with_equal_things_of_the_same_class(self):
        found = self.things()
        found.pop("Bench")
        self.assertGreater(len(found), 35, sorted(found))
        things = [thing for held in found.values() for thing in held]
        others = [None, 0, 1, True, "x", (), [], {}, object(), unittest, Compared]
        for index, one in enumerate(things):
            for place, other in enumerate(things):
                self.assertIs(one == other, index == place)
                self.assertIs(one != other, index != place)
            twin = copy.deepcopy(one)
            self.assertIs(one == twin, True)
            self.assertIs(one != twin, False)
            for other in others + [vars(one), tuple(vars(one).values()), parts_of(one)]:
                self.assertIs(one == other, False)
                self.assertIs(one != other, True)
                self.assertIs(other == one, False)
            for name in vars(one):
                changed = copy.copy(one)
                setattr(changed, name, "another thing")
                self.assertIs(one == changed, False, (one, name))


class MainPromises(unittest.TestCase):
    def test_sums_over_lanes_and_corner_ways(self):
        many = 0
        for box in BOXES:
            for slope in SLOPES:
                found = told_or_none(lanes.lanes_of, box, slope)
                if found is None:
                    continue
                ways = cornerways.all_corner_ways(box, slope)
                self.assertEqual(sum(lane.length * lane.breadth for lane in found), 4 * box.skin_area)
                self.assertEqual(sum(lane.length for lane in found), sum(way.length for way in ways))
                self.assertEqual((len(ways), len(found) % 2), (24, 0))
                self.assertTrue(2 <= len(found) <= 16)
                for lane in found:
                    self.assertNotEqual(lanes.twin_of(lane), lane)
                    self.assertEqual(taut.taut_row(box, lane.faces), lane)
                many += 1
        self.assertGreater(many, 50)

    def test_ribbons_of_one_slope_cross_evenly_or_lie_in_twins(self):
        for box in BOXES[:5]:
            for slope in SLOPES[:4]:
                found = lanes.lanes_of(box, slope)
                if max(len(lane.faces) for lane in found) > 40:
                    continue
                for index, lane in enumerate(found):
                    for other in found.lanes[index + 1:]:
                        told = set()
                        for one, two in (((1, 3), (2, 5)), ((1, 4), (1, 7))):
                            couple = (wherelane.ribbon_in(lane, one), wherelane.ribbon_in(other, two))
                            told.add(len(crossings.crossings_between(*couple)))
                        self.assertEqual(len(told), 1)
                        self.assertEqual(told.pop() % 2, 0)

    def test_pieces(self):
        for box in BOXES[:4]:
            for slope in SLOPES[:3]:
                found = lanes.lanes_of(box, slope)
                ribbon = wherelane.ribbon_in(found.lanes[0], (1, 3))
                if len(ribbon) <= 60:
                    for piece in pieces.pieces_of([ribbon, wherelane.ribbon_in(found.lanes[-1], (1, 4))]):
                        self.assertEqual(len(piece.corners) + len(piece.bends), 4 - 4 * piece.holes)

    def test_heights_of_a_day_on_real_boxes(self):
        for base, slope in (((1, 1), (1, 1)), ((2, 1), (1, 1)), ((1, 1), (1, 2)), ((1, 2), (3, 1))):
            size = belts.days_of(base, slope)
            for height in range(1, min(size, 4) + 1):
                low, high = [boxes.Box((*base, height + k * size)) for k in (0, 1)]
                for chord in stripes.stripes_at(base, slope, height, self.chord(base, slope)):
                    x, y = belts.spot_place(base, chord[0])
                    for steps_over in slopes.directions_on(5, slope):
                        self.compare(low, high, (x, y), steps_over)

    def chord(self, base, slope):
        found = belts.chord_from(base, slope, "top", ((1, 11), "p"))
        return (found.start[0], found.finish[0])

    def compare(self, low, high, where, direction):
        rows = []
        for box in (low, high):
            place = (*where, (box.sides[2], 1))
            try:
                ribbon = ribbons.ribbon_of(box, place, 5, direction)
            except ValueError:
                return
            rows.append(stripes.stripes_of(ribbon))
        self.assertEqual(rows[0], rows[1])


if __name__ == "__main__":
    unittest.main()
