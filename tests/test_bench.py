import unittest

from helping import NO_NUMBERS, only_tuples, refused
from test_boxgoals import LONG
from tautparcel.bench import Bench
from tautparcel.boxes import Box
from tautparcel.boxgoals import first_unmet
from tautparcel.edits import Winding, winding_after
from tautparcel.errors import BadEdit, BadGoals, NoEdit, NoWinding, TooMany

START = Winding(Box((2, 3, 5)), (1, 2))
TURN = ("turn", ((1, 2, 0), (1, 1, 1)))


def state(bench):
    return (bench.start, bench.now.box.sides, bench.now.slope, bench.standing, bench.log, len(bench), tuple(bench))


def worn():
    """A bench with edits wound and unwound in the middle."""
    bench = Bench(START)
    for edit in (("side", 0, 1), ["scale", 2], TURN, ("slope", 3, 2), ("side", 1, 4)):
        bench.wind(edit)
    bench.unwind(2)
    bench.unwind(4)
    return bench


class Deeds(unittest.TestCase):
    def test_an_empty_bench(self):
        bench = Bench(START)
        self.assertIs(bench.start, START)
        self.assertEqual(bench.now, START)
        self.assertEqual((bench.standing, bench.log, len(bench), list(bench)), ((), (), 0, []))

    def test_wound_and_unwound_in_the_middle(self):
        bench = worn()
        self.assertEqual(bench.standing, ((1, ("side", 0, 1)), (3, TURN), (5, ("side", 1, 4))))
        self.assertEqual(bench.log, (
            ("wind", 1, ("side", 0, 1)), ("wind", 2, ("scale", 2)), ("wind", 3, TURN), ("wind", 4, ("slope", 3, 2)),
            ("wind", 5, ("side", 1, 4)), ("unwind", 2, ("scale", 2)), ("unwind", 4, ("slope", 3, 2))))
        self.assertEqual(bench.now, winding_after(START, [edit for _, edit in bench.standing]))
        self.assertEqual(bench.now.box.sides, (3, 9, 3))
        self.assertEqual((len(bench), tuple(bench)), (3, bench.standing))
        self.assertTrue(only_tuples((bench.standing, bench.log)))
        self.assertIs(bench.start, START)

    def test_numbers(self):
        bench = Bench(START)
        self.assertEqual([bench.wind(("side", 0, 1)) for _ in range(3)], [1, 2, 3])
        self.assertIsNone(bench.unwind(3))
        self.assertEqual(bench.wind(("side", 0, 1)), 4)
        for number in (1, 2, 4):
            self.assertIsNone(bench.unwind(number))
        self.assertEqual((bench.standing, bench.now), ((), START))
        self.assertEqual(bench.wind(("slope", 1, 1)), 5)
        self.assertEqual(bench.standing, ((5, ("slope", 1, 1)),))

    def test_hundred_edits(self):
        bench = Bench(START)
        for number in range(1, 101):
            self.assertEqual(bench.wind(("side", 0, 1 if number % 2 else -1)), number)
        self.assertEqual((len(bench), bench.now), (100, START))
        bench.unwind(100)
        self.assertEqual(bench.now.box.sides, (3, 3, 5))

    def test_benches_stand_alone(self):
        one, other = Bench(START), Bench(START)
        one.wind(("scale", 2))
        self.assertEqual((len(one), len(other)), (1, 0))
        self.assertEqual(other.now, START)
        self.assertIs(one == one, True)
        self.assertIs(Bench(START) == Bench(START), False)
        edit = ["side", 0, 1]
        other.wind(edit)
        edit[2] = 5
        self.assertEqual(other.standing, ((1, ("side", 0, 1)),))

    def test_unmet_now(self):
        bench = Bench(Winding(Box((1, 1, 1)), (1, 1)))
        goals = [("lanes", 8), ["longest", 3]]
        self.assertIsNone(bench.unmet_now(goals))
        bench.wind(("scale", 2))
        self.assertEqual(bench.unmet_now(goals), 1)
        bench.wind(("side", 2, 2))
        self.assertEqual(bench.unmet_now(goals), 0)
        self.assertEqual(bench.unmet_now(goals[::-1]), first_unmet(bench.now.box, bench.now.slope, goals[::-1]))
        bench.unwind(2)
        self.assertEqual(bench.unmet_now(goals), 1)


class Refusals(unittest.TestCase):
    def unchanged(self, bench, error, told, call, *args):
        before = state(bench)
        refused(self, error, told, call, *args)
        self.assertEqual(state(bench), before)

    def test_bad_edits(self):
        bench = worn()
        for wrong, word in ((None, "edit"), ((), "edit"), ("scale", "edit"), ([("scale", 2)], "edit"), (("side", 3, 1), "axis"),
                            (("side", True, 1), "axis"), (("side", 0, 0), "by"), (("scale", 1), "size"),
                            (("slope", 1, 0), "slope"), (("turn", ()), "turn")):
            self.unchanged(bench, BadEdit, {"index": 0, "what": word}, bench.wind, wrong)
        self.assertEqual(bench.wind(("slope", 1, 1)), 6)

    def test_no_winding(self):
        bench = worn()
        for wrong in (("side", 0, -3), ("side", 1, 52), ("scale", 7)):
            self.unchanged(bench, NoWinding, {"index": 3}, bench.wind, wrong)
        empty = Bench(START)
        self.unchanged(empty, NoWinding, {"index": 0}, empty.wind, ("side", 0, -2))
        self.assertEqual(empty.wind(("side", 0, -1)), 1)

    def test_unwinding_what_others_need(self):
        bench = Bench(START)
        for edit in (("slope", 1, 1), ("side", 0, 3), ("side", 1, 1), ("side", 0, -4), ("scale", 2)):
            bench.wind(edit)
        self.unchanged(bench, NoWinding, {"index": 2}, bench.unwind, 2)
        bench.unwind(1)
        self.unchanged(bench, NoWinding, {"index": 1}, bench.unwind, 2)
        bench.unwind(4)
        self.assertIsNone(bench.unwind(2))
        self.assertEqual(bench.standing, ((3, ("side", 1, 1)), (5, ("scale", 2))))

    def test_no_edit(self):
        bench = worn()
        for number in NO_NUMBERS + [0, 2, 4, 6, -1]:
            self.unchanged(bench, NoEdit, {"number": number}, bench.unwind, number)
        self.assertIsNone(bench.unwind(1))
        self.unchanged(bench, NoEdit, {"number": 1}, bench.unwind, 1)

    def test_goals(self):
        bench = worn()
        for goals, index in ((None, 0), ([("lanes", 1), ("lanes", -1)], 1)):
            self.unchanged(bench, BadGoals, {"index": index}, bench.unmet_now, goals)
        long = Bench(Winding(LONG, (9, 8)))
        self.unchanged(long, TooMany, {"most": 400}, long.unmet_now, [("lanes", 4)])


class Trials(unittest.TestCase):
    def test_the_bench_is_as_before(self):
        bench = worn()
        before = state(bench)
        with bench.trial() as held:
            self.assertIs(held, bench)
            self.assertEqual(state(bench), before)
            self.assertEqual(bench.wind(("slope", 1, 1)), 6)
            bench.unwind(1)
            self.assertEqual(len(bench.log), 9)
        self.assertEqual(state(bench), before)
        self.assertEqual(bench.wind(("scale", 2)), 6)

    def test_at_its_entry(self):
        bench = Bench(START)
        trial = bench.trial()
        bench.wind(("scale", 2))
        before = state(bench)
        with trial:
            bench.unwind(1)
            bench.wind(("side", 0, 1))
        self.assertEqual(state(bench), before)
        self.assertEqual(bench.wind(("side", 0, 1)), 2)

    def test_within_trials(self):
        bench = worn()
        before = state(bench)
        with bench.trial():
            bench.wind(("slope", 1, 1))
            between = state(bench)
            with bench.trial() as held:
                held.wind(("slope", 2, 1))
                self.assertEqual(held.tried(lambda inner: inner.wind(("slope", 3, 1))), 8)
                self.assertEqual(held.wind(("slope", 5, 1)), 8)
            self.assertEqual(state(bench), between)
            self.assertEqual(bench.wind(("slope", 4, 1)), 7)
        self.assertEqual(state(bench), before)
        self.assertEqual(bench.wind(TURN), 6)

    def test_ended_by_an_error(self):
        bench = worn()
        before = state(bench)
        for wrong in (KeyError("x"), NoEdit(7)):
            with self.assertRaises(type(wrong)) as caught:
                with bench.trial():
                    bench.wind(("slope", 1, 1))
                    raise wrong
            self.assertIs(caught.exception, wrong)
            self.assertEqual(state(bench), before)
        with self.assertRaises(NoEdit):
            with bench.trial():
                bench.unwind(1)
                bench.unwind(1)
        self.assertEqual(state(bench), before)
        self.assertEqual(bench.wind(TURN), 6)

    def test_tried(self):
        bench = worn()
        before = state(bench)
        seen = []

        def call(held):
            seen.append(held)
            held.wind(("side", 2, 1))
            return held.now.box.sides

        self.assertEqual(bench.tried(call), (3, 9, 4))
        self.assertIs(seen[0], bench)
        self.assertEqual(state(bench), before)
        self.assertIsNone(bench.tried(lambda held: held.unwind(3)))
        self.assertEqual(state(bench), before)
        wrong = ZeroDivisionError()

        def fail(held):
            held.unwind(5)
            raise wrong

        with self.assertRaises(ZeroDivisionError) as caught:
            bench.tried(fail)
        self.assertIs(caught.exception, wrong)
        self.assertEqual(state(bench), before)
        refused(self, NoWinding, {"index": 3}, bench.tried, lambda held: held.wind(("scale", 60)))
        self.assertEqual(bench.wind(TURN), 6)


if __name__ == "__main__":
    unittest.main()
