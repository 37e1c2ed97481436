import unittest
from itertools import combinations

from beltwalk import bases_and_slopes
from helping import check_result, refused
from test_stripes import chord_of, chords_at, many_chords
from tautparcel.belts import days_of
from tautparcel.errors import TooMany
from tautparcel.fitting import heights_that_have
from tautparcel.stripes import Stripes, stripes_at
from tautparcel.telling import Telling, telling_fault, telling_lots


def days_with(stripes, lot):
    part = Stripes(stripes.base, stripes.slope, [stripes.chords[index] for index in lot])
    return tuple(row[0] for row in heights_that_have(part).rows)


def all_lots(stripes):
    return [lot for size in range(1, len(stripes) + 1) for lot in combinations(range(len(stripes)), size)]


def gone_through(stripes):
    """The Telling by going through all lots one by one, each told as stripes of its own."""
    left = {lot: days_with(stripes, lot) for lot in all_lots(stripes)}
    days = left[tuple(range(len(stripes)))]
    right = [lot for lot in left if left[lot] == days]
    least = [lot for lot in right if not [less for less in right if len(less) == len(lot) - 1 and set(less) < set(lot)]]
    return Telling(days, tuple(least))


def some_stripes():
    found = []
    for base, slope in bases_and_slopes(36):
        for height in (1, days_of(base, slope) // 2 + 1):
            whole = stripes_at(base, slope, height, chord_of(base, slope))
            found.append(Stripes(base, slope, whole.chords[:5]))
            found.append(Stripes(base, slope, list(chords_at(base, slope, 5))[height % 3:][:4]))
    return found


# Few chords of which no one is needed, and some that are.
RICH = stripes_at((10, 15), (4, 1), 5, chord_of((10, 15), (4, 1)))


class Lots(unittest.TestCase):
    def test_gone_through_one_by_one(self):
        several = 0
        for stripes in some_stripes()[::2]:
            found = telling_lots(stripes)
            self.assertEqual(found, gone_through(stripes))
            self.assertIsNone(telling_fault(stripes, found))
            several += len(found.lots) > 1
        self.assertGreater(several, 10)

    def test_no_index_is_needed(self):
        found = telling_lots(Faults.STRIPES)
        self.assertEqual(found, Telling((3, 7), ((0, 1), (0, 2), (1, 3), (2, 3))))
        self.assertEqual(found.needed, ())

    def test_several_least_lots(self):
        stripes = Stripes((10, 15), (4, 1), RICH.chords[:5])
        found = telling_lots(stripes)
        self.assertEqual(found, gone_through(stripes))
        self.assertIn(5, found.days)

    def test_chords_that_stand_together_nowhere(self):
        base, slope = (2, 1), (1, 2)
        chords = [((1, 7), chord) for chord in chords_at(base, slope, 7)]
        stripes = Stripes(base, slope, [chord for _, chord in chords[:6]])
        found = telling_lots(stripes)
        self.assertEqual(found.days, ())
        self.assertEqual(found, gone_through(stripes))
        self.assertIsNone(telling_fault(stripes, found))

    def test_needed(self):
        for lots, needed in (
            ((), ()), (((0,),), (0,)), (((0, 2), (1, 2)), (2,)), (((0,), (1,)), ()), (((1, 2, 4), (0, 2, 4)), (2, 4)),
            (((0, 1, 2),), (0, 1, 2)),
        ):
            self.assertEqual(Telling((), lots).needed, needed)
        one = telling_lots(Stripes((10, 15), (4, 1), RICH.chords[:8]))
        self.assertTrue(one.needed)
        self.assertEqual(one.needed, tuple(k for k in range(8) if all(k in lot for lot in one.lots)))
        self.assertGreater(len(one.lots), 1)

    def test_one_chord(self):
        stripes = Stripes((1, 1), (1, 1), [chord_of((1, 1), (1, 1))])
        self.assertEqual(telling_lots(stripes), Telling(days_with(stripes, (0,)), ((0,),)))

    def test_eight_chords_and_nine(self):
        chords = many_chords(9)
        self.assertEqual(telling_lots(Stripes((1, 1), (1, 1), chords[:8])).days, ())
        nine = Stripes((1, 1), (1, 1), chords)
        refused(self, TooMany, {"most": 8}, telling_lots, nine)
        refused(self, TooMany, {"most": 8}, telling_fault, nine, None)

    def test_it_is_a_result(self):
        check_result(self, Telling, ["days", "lots"])


class Faults(unittest.TestCase):
    STRIPES = stripes_at((1, 1), (2, 1), 3, chord_of((1, 1), (2, 1)))

    def test_words(self):
        stripes = self.STRIPES
        right = telling_lots(stripes)
        days, lots = right.days, right.lots
        left = {lot: days_with(stripes, lot) for lot in all_lots(stripes)}
        other = [lot for lot in left if left[lot] != days]
        larger = [lot for lot in left if left[lot] == days and lot not in lots]
        self.assertTrue(other and larger and days)
        self.assertIsNone(telling_fault(stripes, Telling(days, lots)))

        def order(found):
            return tuple(sorted(found, key=lambda lot: (len(lot), lot)))

        cases = [
            ("telling", None), ("telling", (days, lots)), ("telling", Telling(days, list(lots))),
            ("telling", Telling(days, tuple(list(lot) for lot in lots))), ("telling", Telling(days, ((),) + lots)),
            ("telling", Telling(days, lots + lots[-1:])), ("telling", Telling(days, ((5,),))),
            ("telling", Telling(days, ((-1,),))), ("telling", Telling(days, ((1, 0),))),
            ("telling", Telling(days, ((1, 1),))), ("telling", Telling(days, ((True,),))),
            ("telling", Telling(days, ((0, False),))), ("telling", Telling(days, (0,))),
            ("telling", Telling(days, ((None,),))), ("telling", Telling(days, (([],),))), ("telling", Telling(days, None)),
            ("telling", Telling(days, ((0, 1), (0,)))), ("telling", Telling(days, ((1,), (0,)))),
            ("telling", Telling(None, None)),
            ("days", Telling(days[1:], lots)), ("days", Telling(list(days), lots)), ("days", Telling((), lots)),
            ("days", Telling(None, order(other[:1]))),
            ("days", Telling(days + (199,), lots)),
            ("leaves", Telling(days, order(other[:1]))), ("leaves", Telling(days, order(lots + tuple(other[:1])))),
            ("leaves", Telling(days, order(other[:1] + larger[:1]))),
            ("least", Telling(days, order(larger[:1]))), ("least", Telling(days, order(lots + tuple(larger[-1:])))),
            ("lacking", Telling(days, ())), ("lacking", Telling(days, lots[1:])), ("lacking", Telling(days, lots[:-1])),
        ]
        for index, (word, told) in enumerate(cases):
            self.assertEqual(telling_fault(stripes, told), word, index)

    def test_days_are_numbers(self):
        stripes = Stripes((1, 1), (1, 1), [chord_of((1, 1), (1, 1))])
        right = telling_lots(stripes)
        self.assertIn(1, right.days)
        wrong = tuple(True if day == 1 else day for day in right.days)
        self.assertEqual(telling_fault(stripes, Telling(wrong, right.lots)), "days")


if __name__ == "__main__":
    unittest.main()
