import unittest

from helping import NO_NUMBERS, refused
from tautparcel.errors import BadGoal
from tautparcel.goals import check_goal

MOST = 10 ** 18


class Goals(unittest.TestCase):
    def test_each_form(self):
        for word in ("lanes", "longest", "breadth"):
            for many in (0, 1, 7, MOST):
                self.assertEqual(check_goal((word, many)), (word, many))
                self.assertEqual(check_goal([word, many]), (word, many))
        for goal in (("no crossing",), ["no crossing"]):
            self.assertEqual(check_goal(goal), ("no crossing",))
            self.assertIsInstance(check_goal(goal), tuple)

    def test_refused(self):
        for word in ("lanes", "longest", "breadth"):
            for many in NO_NUMBERS + [-1, MOST + 1, (1, 1)]:
                refused(self, BadGoal, {"goal": (word, many)}, check_goal, (word, many))
            for goal in ((word,), [word], (word, 1, 1), word, {word: 1}):
                refused(self, BadGoal, {"goal": goal}, check_goal, goal)
        for goal in ((), [], None, 5, "no crossing", ("no crossing", 0), ("no crossing", None), ("crossing",), ("", 1),
                     (1, "lanes"), ("Lanes", 1), ("lane", 1), (None, 1), ([], 1), ([],), (b"lanes", 1), {"lanes", 3}):
            refused(self, BadGoal, {"goal": goal}, check_goal, goal)

    def test_what_is_passed_stays(self):
        goal = ["lanes", 4]
        check_goal(goal)
        self.assertEqual(goal, ["lanes", 4])


if __name__ == "__main__":
    unittest.main()
