import importlib
import inspect
import unittest

INTERFACE = {
    "ratios": [
        "is_whole(thing, low=None, high=None)", "is_ratio(thing)", "make_ratio(top, bottom=1)", "plus(one, other)",
        "minus(one, other)", "times(one, other)", "over(one, other)", "negative(one)", "compare(one, other)",
        "sum_of(ratios)", "least_of(ratios)", "greatest_of(ratios)", "floor_of(one)", "broken_of(one)",
        "ratio_text(one)",
    ],
    "boxes": [
        "check_face(face)", "check_corner(corner)", "face_axes(face)", "are_beside(face, other)", "faces_beside(face)",
        "faces_of_corner(corner)", "all_edges()", "check_edge(edge)", "faces_of_edge(edge)",
        "edge_between(face, beside)", "Box(sides)",
    ],
    "places": [
        "check_place(box, place)", "faces_at(box, place)", "kind_of_place(box, place)", "corner_number(box, place)",
        "edge_of_place(box, place)", "place_of_corner(box, corner)", "place_on(box, face, first, second)",
        "framed(face, triple)",
    ],
    "slopes": [
        "check_slope(slope, band=False)", "mirrored_slope(slope)", "check_direction(face, direction)",
        "unframed(face, first, second)", "directions_on(face, slope)", "slope_of(face, direction)",
        "left_of(face, direction)", "back_of(face, direction)", "outward_step(beside, direction)",
        "over_edge(face, beside, direction)", "sideways(face, direction, place)",
    ],
    "along": [
        "check_how(how)", "all_hows()", "keeps_sense(how)", "back_how(how)", "joined_how(how, further)",
        "led_box(box, how)", "led_place(box, place, how)", "led_face(face, how)", "led_corner(corner, how)",
        "led_direction(face, direction, how)", "led_slope(slope, how)", "led_row(row, how)", "scaled_box(box, size)",
        "scaled_place(box, place, size)",
    ],
    "parceltext": [
        "read_ratio(text)", "box_text(box)", "read_box(text)", "slope_text(slope)", "read_slope(text)",
        "place_text(box, place)", "read_place(box, text)", "row_text(row)", "read_row(text)",
        "entrance_text(box, place, face, direction)", "read_entrance(box, text)",
    ],
    "steps": [
        "check_entrance(box, place, face, direction)", "pass_from(box, place, face, direction)", "back_pass(taken)",
        "whole_pass(box, place, face, direction)", "next_start(box, taken)", "pass_after(box, taken)",
        "pass_before(box, taken)", "pass_crossing(taken, met)", "crossing_lengths(taken, met)",
        "Pass(face, direction, start, end, length)",
    ],
    "rays": [
        "most_passes(box, slope)", "ray_of(box, place, face, direction, passes)",
        "corner_ahead(box, place, face, direction)", "MeetsCorner(corner, length, passes)",
    ],
    "ribbons": [
        "ribbon_of(box, place, face, direction)", "ribbon_begun(ribbon, index)", "back_ribbon(ribbon)",
        "least_ribbon(ribbon)", "same_ribbon(ribbon, mate)", "length_square(ribbon)", "chords_on(ribbon, face)",
        "ribbon_fault(box, passes)", "Ribbon(box, slope, passes, length)",
    ],
    "facerows": [
        "check_facerow(row)", "begun_row(row, index)", "back_row(row)", "least_begun(row)", "least_row(row)",
        "same_row(row, other)", "single_row(row)",
    ],
    "unfolding": [
        "unfold_row(row)", "gate_corners(row)", "form_at(box, form)", "gates_at(box, row)", "shift_at(box, row)",
        "flat_place(box, row, index, place)", "solid_place(box, row, index, point)", "Unfolded(row, placings, gates)",
    ],
    "taut": [
        "taut_row(box, row)", "slide_of(lane)", "entrances_in(lane, offset)", "boxes_of_row(row, most)",
        "rows_through(box, most)", "Lane(box, faces, direction, low, length, breadth)", "NotTaut(what, first, second)",
        "Slide(right, left)",
    ],
    "cornerways": [
        "faces_round(corner)", "corner_direction(corner, face, slope)", "corner_way(box, corner, face, slope)",
        "all_corner_ways(box, slope)", "back_way(way)", "way_places(way)", "shortest_ways(box, slope)",
        "ways_from(box, corner, most)", "straight_between(box, corner, other, most)",
        "CornerWay(box, slope, start, face, finish, last, length, faces)",
    ],
    "lanes": [
        "sideways_range(box, face, direction)", "check_strip(box, strip)", "strip_after(box, strip)",
        "strip_before(box, strip)", "strips_of(lane)", "settled_lane(lane)", "twin_of(lane)",
        "lane_of_strip(box, strip)", "lanes_of(box, slope)", "Strip(face, direction, low, high)", "Split(corner)",
        "Lanes(box, slope, lanes)",
    ],
    "lanesums": [
        "area_of(lane)", "whole_area(lanes)", "whole_length(lanes)", "share_of(lane, face)", "shares_of(lane)",
        "strips_on(lanes, face, direction)", "rows_fault(box, slope, rows)", "longest_lane(lanes)",
        "broadest_lane(lanes)",
    ],
    "wherelane": [
        "lane_at(box, place, face, direction)", "lanes_through(lanes, face, place)", "ribbon_in(lane, offset)",
        "middle_ribbon(lane)", "lane_of(ribbon)", "offset_of(ribbon)", "aside(ribbon, other)",
        "Where(lane, strip, offset)", "OnBorder(corner, face, gone)",
    ],
    "borders": [
        "way_after(way, side)", "way_before(way, side)", "border_of(way, side)", "all_borders(box, slope, side)",
        "twin_border(border)", "border_fault(box, slope, side, keys)", "Border(side, ways, length)",
    ],
    "webs": [
        "lanes_beside(lanes, way)", "borders_of(lanes, number)", "web_of(lanes)", "web_lots(lanes)",
        "Link(left, right, way)",
    ],
    "crossings": [
        "crossings_of(ribbon)", "crossings_between(ribbon, mate)", "check_lot(ribbons)", "strands_at(ribbons, place)",
        "Crossing(place, first, second)",
    ],
    "shades": [
        "shades_of_corners(ribbon)", "sides_of(ribbon)", "loop_at(ribbon, place)",
        "Loop(place, first, second, corners, others)",
    ],
    "pieces": [
        "pieces_of(ribbons)", "piece_at(ribbons, place)", "Piece(parts, corners, bends, holes, area)",
    ],
    "arcs": [
        "arcs_of(ribbons)", "shades_of_pieces(ribbons)", "way_apart(ribbons, place, other)",
        "Arc(number, moment, length, left, right)",
    ],
    "tables": [
        "cross_table(box, slope)", "measure_of(table, index)", "table_sum(table)", "crossings_told(table, lot)",
        "pieces_told(table, lot)", "CrossTable(box, slope, lanes, rows)",
    ],
    "farplaces": [
        "check_length(length)", "place_after(ribbon, length)", "nth_pass(ribbon, number)",
        "passes_on(ribbon, face, length)", "when_at(ribbon, place)", "times_at(ribbon, place, length)",
        "FarPlace(place, index, rounds)",
    ],
    "meetings": [
        "common_time(beat, mate)", "walk_at(walker, time)", "meet_when(walker, mate)", "Walk(ribbon, start, pace)",
        "Meeting(time, place)",
    ],
    "counts": [
        "face_counts(row)", "edge_counts(row)", "length_by_counts(box, slope, row)", "breadths_by_face(lanes)",
        "breadths_by_edge(lanes)", "least_length(box, slope)", "shortest_square(box)",
    ],
    "levels": [
        "level_moments(ribbon, axis, level)", "band_ribbon(box, axis, level)", "Crossed(moment, place, grows)",
    ],
    "shortribbons": [
        "slopes_to(steep)", "short_lanes(box, most, steep)", "shortest_lanes(box, steep)",
        "broadest_lanes(box, steep)", "Short(square, slope, lane)", "Broadest(square, lanes)",
    ],
    "through": [
        "ways_through(box, place, slope)", "ribbons_through(box, place, slope)",
        "shortest_through(box, place, steep)", "Through(ribbon, moments)",
    ],
    "goals": ["check_goal(goal)"],
    "belts": [
        "check_base(base)", "check_height(height)", "check_spot(base, spot)", "check_gait(gait)",
        "check_mark(base, mark)", "check_day(base, slope, day)", "rim_length(base)", "spot_place(base, spot)",
        "place_spot(base, place)", "belt_shift(base, slope, height, gait)", "chord_from(base, slope, cap, mark)",
        "days_of(base, slope)", "day_of(base, slope, height)", "first_height(base, slope, day)",
        "Chord(cap, start, finish, length)", "CapCorner(corner, length)",
    ],
    "rings": [
        "form_length(slope, form, height)", "ring_of(base, slope, day, mark)",
        "Ring(tops, bottoms, rest, by_p, by_q)", "RingEnds(corner, rest, by_p, by_q)",
    ],
    "forms": [
        "way_forms(base, slope, day)", "lane_forms(base, slope, day)", "lane_of_mark(base, slope, day, mark)",
        "top_shows(base, slope, day)", "WayForm(start, face, finish, last, rest, by_p, by_q)",
        "LaneForm(breadth, rest, by_p, by_q, selfs, slices)", "Stretch(gait, low, high, to_gait, to_low, to_high)",
    ],
    "calendars": [
        "make_calendar(base, slope)", "least_period(calendar)", "lanes_at(base, slope, height)",
        "selfs_at(base, slope, height)", "Calendar(base, slope, size, rows)",
    ],
    "heights": [
        "height_fits(base, slope, height, goal)", "heights_with(base, slope, goal)", "Heights(size, rows)",
    ],
    "stripes": [
        "check_chord(base, slope, chord)", "stripes_at(base, slope, height, chord)", "stripes_of(ribbon)",
        "Stripes(base, slope, chords)",
    ],
    "fitting": [
        "heights_that_fit(stripes)", "heights_that_have(stripes)", "misfit_at(stripes, height)", "NoHeight(index)",
        "Misfit(what, chord)",
    ],
    "surefacts": [
        "fact_at(stripes, fact, height)", "sure_fact(stripes, fact, low=1, high=None)", "Sure(height)",
        "Never(height)", "Both(yes, no)",
    ],
    "telling": ["telling_lots(stripes)", "telling_fault(stripes, told)", "Telling(days, lots)"],
    "parting": [
        "parting_chord(base, slope, one, other)", "parting_fault(base, slope, one, other, told)",
        "alike_days(base, slope)", "Parting(chord, first, second)",
    ],
    "boxgoals": [
        "meets_at_box(box, slope, goal)", "check_goals(goals)", "first_unmet(box, slope, goals)",
        "slopes_with(box, goal, steep)", "sides_with(box, slope, axis, most, goal)",
    ],
    "edits": ["check_edits(edits)", "winding_after(winding, edits)", "Winding(box, slope)"],
    "mends": [
        "find_mends(winding, pool, goals)", "find_spoilers(winding, pool, goals)", "sure_goals(winding, pool, goals)",
        "Mends(least, losses)", "Unmet(what, index)", "Spoiler(choice, added, unmet)",
    ],
    "bench": ["Bench(winding)"],
}
# The methods of each class, besides those that all classes but the bench have.
METHODS = {
    "Box": ["skin_area", "corner_places"],
    "Ribbon": ["__len__", "__iter__"],
    "Unfolded": ["turn", "shift"],
    "CornerWay": ["key", "back_key", "squared"],
    "Lanes": ["__len__", "__iter__", "number_of"],
    "Heights": ["holds", "many_between"],
    "Stripes": ["__len__", "__iter__", "period"],
    "Telling": ["needed"],
    "Mends": ["needed"],
    "Bench": ["__len__", "__iter__", "wind", "unwind", "unmet_now", "trial", "tried"],
}
CONSTANTS = {"ratios": {"ZERO": (0, 1), "ONE": (1, 1), "HALF": (1, 2)}}
# Classes whose attributes are not just their arguments.
NO_RESULTS = ["Box", "Lane", "Ribbon", "Walk", "Stripes", "Bench"]
GENERATORS = ["ray_of", "rows_through", "ways_from"]


class Interface(unittest.TestCase):
    def test_names_and_arguments(self):
        for module_name, lines in INTERFACE.items():
            module = importlib.import_module("tautparcel." + module_name)
            for line in lines:
                name = line.partition("(")[0]
                thing = getattr(module, name)
                self.assertEqual(name + str(inspect.signature(thing)), line)
                self.assertEqual(thing.__module__, module.__name__, name)
                self.assertEqual(inspect.isgeneratorfunction(thing), name in GENERATORS, name)

    def test_methods_stand_in_their_classes(self):
        classes = self.classes()
        self.assertEqual(len(classes), 50)
        for name, thing in classes.items():
            for method in ["__init__"] + ["__eq__"] * (name != "Bench") + METHODS.get(name, []):
                self.assertIn(method, vars(thing), (name, method))
        self.assertNotIn("__eq__", vars(classes["Bench"]))

    def classes(self):
        found = {}
        for module_name, lines in INTERFACE.items():
            for line in lines:
                name = line.partition("(")[0]
                if name[0].isupper():
                    found[name] = getattr(importlib.import_module("tautparcel." + module_name), name)
        return found

    def test_constants(self):
        for module_name, told in CONSTANTS.items():
            for name, value in told.items():
                self.assertEqual(getattr(importlib.import_module("tautparcel." + module_name), name), value)

    def test_attributes_bear_the_names_of_the_arguments(self):
        for module_name, lines in INTERFACE.items():
            module = importlib.import_module("tautparcel." + module_name)
            for line in lines:
                name, _, rest = line[:-1].partition("(")
                if name[0].isupper() and name not in NO_RESULTS:
                    words = rest.split(", ")
                    values = [object() for _ in words]
                    made = getattr(module, name)(*values)
                    self.assertEqual(list(vars(made).items()), list(zip(words, values)))


if __name__ == "__main__":
    unittest.main()
