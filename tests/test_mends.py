import unittest
from itertools import combinations

from helping import as_lists, check_result, only_tuples, refused
from test_boxgoals import LONG
from tautparcel.along import all_hows
from tautparcel.boxes import Box
from tautparcel.boxgoals import first_unmet
from tautparcel.edits import Winding, winding_after
from tautparcel.errors import BadEdit, BadGoals, NoWinding, TooMany
from tautparcel.mends import Mends, Spoiler, Unmet, find_mends, find_spoilers, sure_goals

CUBE = Winding(Box((1, 1, 1)), (1, 1))
GROW = ("side", 2, 1)
STEEP = ("slope", 9, 8)
TURN = ("turn", ((1, 2, 0), (1, 1, 1)))
CALLS = (find_mends, find_spoilers, sure_goals)


def all_choices(pool):
    return [choice for size in range(len(pool) + 1) for choice in combinations(range(len(pool)), size)]


def judged(winding, pool, choice, goals):
    """Why a choice is not good, told edit by edit, or None."""
    for many in range(len(choice) + 1):
        try:
            there = winding_after(winding, [pool[index] for index in choice[:many]])
        except NoWinding:
            return Unmet("edit", choice[many - 1])
    index = first_unmet(there.box, there.slope, goals)
    return None if index is None else Unmet("goal", index)


def gone_through(winding, pool, goals):
    """The Mends and the Spoilers by going through all choices one by one."""
    why = {choice: judged(winding, pool, choice, goals) for choice in all_choices(pool)}
    good = [choice for choice in why if why[choice] is None]

    def has_good_part(choice):
        return any(set(part) < set(choice) for part in good)

    least = tuple(choice for choice in good if not has_good_part(choice))
    losses = tuple((choice, why[choice]) for choice in why if why[choice] is not None and not has_good_part(choice))
    spoilers = []
    for choice in least:
        for added in range(len(pool)):
            if added not in choice and why[tuple(sorted(choice + (added,)))] is not None:
                spoilers.append(Spoiler(choice, added, why[tuple(sorted(choice + (added,)))]))
    return Mends(least, losses), tuple(spoilers)


CASES = [
    (CUBE, [GROW, GROW], [("lanes", 4)]),
    (CUBE, [GROW], [("lanes", 8)]),
    (CUBE, (GROW, ["side", 0, 1], ("scale", 2), ["slope", 1, 2], TURN), (["lanes", 4],)),
    (CUBE, [GROW, ("side", 1, 1), ("side", 0, 2), ("slope", 2, 1)], [("lanes", 4), ("longest", 20)]),
    (CUBE, [("side", 0, -1), ("side", 0, 1), ("scale", 60), ("side", 1, 3)], [("lanes", 8), ("breadth", 2)]),
    (CUBE, [("side", 0, 1), ("side", 0, -1), GROW, ("side", 2, -1)], [("no crossing",), ("breadth", 1)]),
    (Winding(Box((1, 1, 2)), (1, 1)), [("side", 2, -1), GROW, ("slope", 1, 3)], [("no crossing",), ("lanes", 8)]),
    (Winding(Box((1, 2, 3)), (2, 1)), [("scale", 2), ("side", 0, 2), ("side", 1, 1), ("slope", 1, 1)], [("breadth", 4)]),
    (Winding(Box((2, 2, 3)), (1, 1)), [("side", 1, -1), ("side", 2, -2), ("side", 0, -1)], [("longest", 12)]),
    (CUBE, [GROW, ("scale", 3), TURN], [("lanes", 77)]),
    (CUBE, [GROW, ("scale", 3), TURN], [("breadth", 0)]),
]


class Choices(unittest.TestCase):
    def test_gone_through_one_by_one(self):
        lots = {"least": 0, "losses": 0, "spoilers": 0, "edit": 0}
        for winding, pool, goals in CASES:
            mends, spoilers = gone_through(winding, pool, goals)
            found = find_mends(winding, pool, goals)
            self.assertEqual(found, mends)
            self.assertEqual(find_spoilers(winding, pool, goals), spoilers)
            self.assertTrue(only_tuples((found.least, found.losses, tuple(choice for choice, _ in found.losses))))
            lots["least"] += len(mends.least)
            lots["losses"] += len(mends.losses)
            lots["spoilers"] += len(spoilers)
            lots["edit"] += len([1 for _, unmet in mends.losses if unmet.what == "edit"])
        self.assertGreater(min(lots.values()), 3, lots)

    def test_lists_and_tuples_alike(self):
        for winding, pool, goals in CASES:
            self.assertEqual(find_mends(winding, as_lists(pool), as_lists(goals)), find_mends(winding, tuple(pool), goals))

    def test_example(self):
        found = find_mends(CUBE, [GROW, GROW], [("lanes", 4)])
        self.assertEqual(found.least, ((0,), (1,)))
        self.assertEqual(found.losses, (((), Unmet("goal", 0)),))
        self.assertEqual(found.needed, ())
        told = (Spoiler((0,), 1, Unmet("goal", 0)), Spoiler((1,), 0, Unmet("goal", 0)))
        self.assertEqual(find_spoilers(CUBE, [GROW, GROW], [("lanes", 4)]), told)
        self.assertEqual(sure_goals(CUBE, [GROW, GROW], [("lanes", 4)]), ("both",))

    def test_no_least_choice(self):
        found = find_mends(CUBE, [GROW, TURN], [("lanes", 5)])
        self.assertEqual((found.least, found.needed, len(found.losses)), ((), (), 4))
        self.assertEqual(find_spoilers(CUBE, [GROW, TURN], [("lanes", 5)]), ())

    def test_a_good_one_with_a_larger_one_that_is_not(self):
        found = find_mends(CUBE, [GROW], [("lanes", 8)])
        self.assertEqual((found.least, found.losses), (((),), ()))
        self.assertEqual(find_spoilers(CUBE, [GROW], [("lanes", 8)]), (Spoiler((), 0, Unmet("goal", 0)),))

    def test_edits_on_the_way(self):
        pool = [("side", 0, 1), ("side", 0, -1), ("side", 0, -1), ("scale", 59), ("scale", 2)]
        found = dict(find_mends(CUBE, pool, [("lanes", 0)]).losses)
        self.assertEqual(len(found), 32)
        self.assertEqual(found[(0, 1, 2)], Unmet("edit", 2))
        self.assertEqual(found[(1, 2)], Unmet("edit", 1))
        self.assertEqual(found[(0, 1, 3, 4)], Unmet("edit", 4))
        self.assertEqual(found[(0, 3)], Unmet("edit", 3))
        self.assertEqual(found[(0, 1)], Unmet("goal", 0))
        self.assertEqual(list(found), all_choices(pool))

    def test_needed(self):
        for least, needed in (((), ()), (((),), ()), (((0, 2), (2, 3)), (2,)), (((1,),), (1,)), (((0,), (1, 2)), ())):
            self.assertEqual(Mends(least, ()).needed, needed)
        pool = [("side", 0, 1), ("slope", 1, 2), ("scale", 2)]
        found = find_mends(CUBE, pool, [("breadth", 2), ("lanes", 12)])
        self.assertEqual((found.least, found.needed), (((1, 2),), (1, 2)))

    def test_they_are_results(self):
        check_result(self, Mends, ["least", "losses"])
        check_result(self, Unmet, ["what", "index"])
        check_result(self, Spoiler, ["choice", "added", "unmet"])


class Sure(unittest.TestCase):
    def test_words(self):
        words = set()
        for winding, pool, goals in CASES:
            rows = []
            for choice in all_choices(pool):
                try:
                    there = winding_after(winding, [pool[index] for index in choice])
                except NoWinding:
                    continue
                rows.append([first_unmet(there.box, there.slope, [goal]) is None for goal in goals])
            told = tuple("always" if all(met) else "both" if any(met) else "never" for met in zip(*rows))
            self.assertEqual(sure_goals(winding, pool, goals), told)
            words |= set(told)
        self.assertEqual(words, {"always", "never", "both"})

    def test_pools_of_turns_alone(self):
        goals = [("lanes", 4), ("lanes", 8), ("longest", 10), ("breadth", 1), ("no crossing",), ("longest", 40)]
        hows = all_hows()
        for winding in (CUBE, Winding(Box((1, 1, 2)), (2, 1)), Winding(Box((2, 3, 1)), (1, 3))):
            for start in (0, 11, 23):
                pool = [("turn", hows[(start + 13 * k) % 48]) for k in range(5)]
                told = sure_goals(winding, pool, goals)
                self.assertNotIn("both", told)
                met = [first_unmet(winding.box, winding.slope, [goal]) is None for goal in goals]
                self.assertEqual(told, tuple("always" if one else "never" for one in met))


class Refused(unittest.TestCase):
    def test_pools(self):
        for call in CALLS:
            for pool in (None, 5, "side", (), [], [GROW] * 6, [None] * 6, {GROW: 1}):
                refused(self, BadEdit, {"index": 0, "what": "pool"}, call, CUBE, pool, None)
            for index in range(5):
                for wrong, word in ((None, "edit"), (("side", 3, 1), "axis"), (("side", 0, 0), "by"), (("scale", 1), "size"),
                                    (("slope", 2, 2), "slope"), (("turn", None), "turn")):
                    pool = [GROW] * index + [wrong]
                    refused(self, BadEdit, {"index": index, "what": word}, call, CUBE, pool, None)

    def test_goals(self):
        for call in CALLS:
            for goals, index in ((None, 0), ([], 0), ([("lanes", 4)] * 7, 0), ([("lanes", 4), None], 1)):
                refused(self, BadGoals, {"index": index}, call, Winding(LONG, (9, 8)), [GROW], goals)

    def test_many_faces_at_just_the_choices_that_are_asked(self):
        many = {"most": 400}
        there = Winding(LONG, (9, 8))
        for call in CALLS:
            refused(self, TooMany, many, call, there, [("slope", 1, 1)], [("lanes", 12)])
        here = Winding(LONG, (1, 1))
        # The choice () is good, so no other one is asked by find_mends.
        self.assertEqual(find_mends(here, [STEEP], [("lanes", 12)]), Mends(((),), ()))
        refused(self, TooMany, many, find_spoilers, here, [STEEP], [("lanes", 12)])
        refused(self, TooMany, many, sure_goals, here, [STEEP], [("lanes", 12)])
        refused(self, TooMany, many, find_mends, here, [STEEP], [("lanes", 8)])
        # What can't be made is not asked.
        self.assertEqual(find_mends(here, [("scale", 60), STEEP], [("lanes", 12)]).least, ((),))
        pool = [("scale", 60), ("slope", 9, 7)]
        self.assertEqual(find_mends(here, pool, [("lanes", 8)]).least, ((1,),))
        self.assertEqual(find_spoilers(here, pool, [("lanes", 8)]), (Spoiler((1,), 0, Unmet("edit", 0)),))
        self.assertEqual(sure_goals(here, pool, [("lanes", 8)]), ("both",))
        # Behind (0, 1) there are too many faces; as (0,) is good, only the spoilers ask it.
        small = Winding(Box((1, 2, 3)), (1, 1))
        pool = [STEEP, ("side", 2, 1)]
        self.assertEqual(find_mends(small, pool, [("lanes", 10)]).least, ((0,),))
        refused(self, TooMany, many, find_spoilers, small, pool, [("lanes", 10)])
        refused(self, TooMany, many, sure_goals, small, pool, [("lanes", 10)])
        refused(self, TooMany, many, find_mends, small, pool, [("lanes", 9)])


if __name__ == "__main__":
    unittest.main()
