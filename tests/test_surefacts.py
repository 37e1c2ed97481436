import unittest
from fractions import Fraction

from beltwalk import bases_and_slopes, inward, spots_of, xy_of
from helping import NO_NUMBERS, chords_met, check_result, number, point, ratio, refused
from test_belts import FAR
from test_fitting import drawn
from test_stripes import chord_of, chords_at, couple_of, mark_of_chord
from tautparcel.belts import chord_from, days_of
from tautparcel.boxes import Box
from tautparcel.crossings import crossings_of
from tautparcel.errors import BadFact, BadHeight, NoFitting, NotFitting
from tautparcel.fitting import NoHeight, heights_that_fit, misfit_at
from tautparcel.ribbons import Ribbon, ribbon_of
from tautparcel.stripes import Stripes, stripes_at
from tautparcel.surefacts import Both, Never, Sure, fact_at, sure_fact

BILLION = 10 ** 9


def real_ribbon(stripes, height):
    """The real ribbon of stripes at a small height."""
    spot, gait = mark_of_chord(stripes.base, stripes.slope, stripes.chords[0])
    x, y = xy_of(stripes.base, number(spot))
    steps = inward(stripes.base, stripes.slope, "top", number(spot), gait)
    ribbon = ribbon_of(Box((*stripes.base, height)), (ratio(x), ratio(y), (height, 1)), 5, (*steps, 0))
    assert isinstance(ribbon, Ribbon)
    return ribbon


def bottom_chords(ribbon):
    """The chords of a ribbon on the bottom as couples of spots, and how often they cross inside."""
    base = ribbon.box.sides[:2]
    lines = [(4, point(taken.start), point(taken.end)) for taken in ribbon.passes if taken.face == 4]
    couples = {tuple(sorted((spots_of(base, start[:2]), spots_of(base, end[:2])))) for _, start, end in lines}
    met = [chords_met(line, other) for index, line in enumerate(lines) for other in lines[:index]]
    inside = [where for where in met if where and 0 < where[0] < base[0] and 0 < where[1] < base[1]]
    return couples, len(inside)


def some_stripes(most):
    """Stripes that some heights fit, with such heights."""
    for base, slope in bases_and_slopes(most):
        for height in (1, 3, days_of(base, slope)):
            stripes = stripes_at(base, slope, height, chord_of(base, slope))
            yield stripes, height


class AtAHeight(unittest.TestCase):
    def test_real_ribbons(self):
        crossed = 0
        for stripes, height in some_stripes(48):
            if height > 24:
                continue
            ribbon = real_ribbon(stripes, height)
            couples, inside = bottom_chords(ribbon)
            rest = sum(number(taken.length) for taken in ribbon.passes if taken.face in (4, 5))
            for couple in chords_at(stripes.base, stripes.slope, 11, "bottom"):
                told = tuple(number(spot) for spot in couple) in couples
                self.assertIs(fact_at(stripes, ("bottom", couple), height), told)
            for couple in couples:
                one, other = [ratio(spot) for spot in couple]
                for chord in ((one, other), [list(other), list(one)]):
                    self.assertIs(fact_at(stripes, ["bottom", chord], height), True)
            many = len(crossings_of(ribbon)) if len(ribbon) <= 400 else None
            crossed += bool(many)
            for more in (-1, 0, 1):
                if inside + more >= 0:
                    self.assertIs(fact_at(stripes, ("bottom crossings", inside + more), height), more == 0)
                if many is not None and many + more >= 0:
                    self.assertIs(fact_at(stripes, ("crossings at most", many + more), height), more >= 0)
                length = ratio(ribbon.length + Fraction(more, BILLION))
                self.assertIs(fact_at(stripes, ("length at most", length), height), more >= 0)
                near = ratio(rest + Fraction(more, rest.denominator))
                if near[0] >= 0:
                    self.assertIs(fact_at(stripes, ("rest", list(near)), height), more == 0)
        self.assertGreater(crossed, 20)

    def test_greatest_numbers(self):
        stripes, height = next(iter(some_stripes(4)))
        self.assertIs(fact_at(stripes, ("crossings at most", BILLION), height), True)
        self.assertIs(fact_at(stripes, ("bottom crossings", BILLION), height), False)
        self.assertIs(fact_at(stripes, ("length at most", (FAR, 1)), height), True)
        self.assertIs(fact_at(stripes, ("length at most", (0, 1)), height), False)
        self.assertIs(fact_at(stripes, ("rest", (FAR * BILLION - 1, BILLION)), height), False)

    def test_facts_refused(self):
        stripes = stripes_at((2, 1), (1, 2), 1, chord_of((2, 1), (1, 2)))
        lot = [(fact, "fact") for fact in (None, 5, "rest", (), ("rest",), ("rest", (1, 1), 1), ("Rest", (1, 1)),
                                           (None, 1), ([], 1), {"rest": 1, "bottom": 2}, ("crossings", 1))]
        for word in ("bottom crossings", "crossings at most"):
            lot += [((word, wrong), "number") for wrong in NO_NUMBERS + [-1, BILLION + 1]]
        wrongs = [wrong for wrong in NO_NUMBERS if wrong != (1, 1)] + [
            (-1, 1), (-1, BILLION), (FAR + 1, 1), (FAR * BILLION + 1, BILLION), (1, BILLION + 1), (2, 4), (1, 0),
            (True, 1), (1, 1, 1)]
        for word in ("length at most", "rest"):
            lot += [((word, wrong), "ratio") for wrong in wrongs]
        top = chord_of((2, 1), (1, 2))
        lot += [(("bottom", wrong), word) for wrong, word in (
            (None, "couple"), (((1, 2),), "couple"), (((1, 2), (6, 1)), "spot"), (((1, 2), (1, FAR + 1)), "spot"),
            (((1, 2), (0, 1)), "corner"), (((2, 1), (2, 1)), "corner"), (((1, 2), (1, 2)), "chord"), (top, "chord"))]
        for fact, word in lot:
            refused(self, BadFact, {"what": word}, fact_at, stripes, fact, None)
            refused(self, BadFact, {"what": word}, sure_fact, stripes, fact, None, 0)

    def test_heights_refused(self):
        stripes = stripes_at((2, 1), (1, 2), 1, chord_of((2, 1), (1, 2)))
        for height in NO_NUMBERS + [0, BILLION + 1]:
            refused(self, BadHeight, {"height": height}, fact_at, stripes, ("rest", (1, 1)), height)
        fitting = heights_that_fit(stripes)
        no = [height for height in range(1, 13) if not fitting.holds(height)]
        self.assertTrue(no)
        for height in no:
            refused(self, NotFitting, {"height": height}, fact_at, stripes, ("rest", (1, 1)), height)


def facts_for(stripes, height):
    """Facts near those that are true at a height."""
    trail = [("bottom crossings", n) for n in range(4)]
    couples = list(chords_at(stripes.base, stripes.slope, 11, "bottom"))
    trail += [("bottom", couple) for couple in couples[:6]]
    trail += [("crossings at most", n) for n in (0, 1, 2, 3, 5, 8, 13, 21, 34, 89, 233)]
    lengths = [Fraction(n) for n in (1, 3, 8, 20, 33, 77, 141, 500)] + [Fraction(41, 3)]
    trail += [("length at most", ratio(length)) for length in lengths]
    rests = {number(stripes.span) * 2, number(stripes.span), Fraction(height)}
    return trail + [("rest", ratio(rest)) for rest in sorted(rests)]


class AtAllHeights(unittest.TestCase):
    def brute(self, stripes, fact, low, high):
        """What is told of the heights from low to high, height by height."""
        rows = heights_that_fit(stripes)
        trues = {}
        for height in range(low, high + 1):
            if not isinstance(rows, NoHeight) and rows.holds(height):
                trues.setdefault(fact_at(stripes, fact, height), height)
        if not trues:
            return None
        if set(trues) == {True, False}:
            return Both(trues[True], trues[False])
        return Sure(trues[True]) if True in trues else Never(trues[False])

    def test_height_by_height(self):
        kinds = {"Sure": 0, "Never": 0, "Both": 0, "NoFitting": 0}
        for stripes, height in list(some_stripes(16))[::2]:
            size = stripes.period
            for fact in facts_for(stripes, height)[::2]:
                for low, high in ((1, 3 * size), (height, height), (size, 2 * size - 1), (5, 4), (2, 3)):
                    told = self.brute(stripes, fact, low, high)
                    if told is None:
                        refused(self, NoFitting, {"low": low, "high": high}, sure_fact, stripes, fact, low, high)
                        kinds["NoFitting"] += 1
                    else:
                        self.assertEqual(sure_fact(stripes, list(fact), low, high), told)
                        kinds[type(told).__name__] += 1
        self.assertGreater(min(kinds.values()), 20, kinds)

    def test_without_an_end(self):
        ends = {"Sure": 0, "Never": 0, "Both": 0}
        for stripes, height in list(some_stripes(16)) + [(stripes, 1) for stripes in drawn((1, 1), (2, 1))]:
            if isinstance(heights_that_fit(stripes), NoHeight):
                refused(self, NoFitting, {"low": 1, "high": None}, sure_fact, stripes, ("rest", (1, 1)))
                continue
            for fact in facts_for(stripes, height)[1::3]:
                found = sure_fact(stripes, fact)
                self.assertEqual(found, sure_fact(stripes, fact, 1, None))
                near = self.brute(stripes, fact, 1, 3 * stripes.period)
                ends[type(found).__name__] += 1
                if found != near:
                    # What is true at the first heights ceases to be true further up.
                    self.assertIsInstance(near, Sure)
                    self.assertEqual(found.yes, near.height)
                    self.assertGreater(found.no, 3 * stripes.period)
                    self.assertIs(fact_at(stripes, fact, found.no), False)
                    before = range(1, found.no)
                    fits = [other for other in before[-3 * stripes.period:] if misfit_at(stripes, other) is None]
                    self.assertEqual({fact_at(stripes, fact, other) for other in fits}, {True})
        self.assertGreater(min(ends.values()), 10, ends)

    def test_far_up(self):
        for stripes, _ in list(some_stripes(16))[::5]:
            fact = ("length at most", (FAR, 1))
            found = sure_fact(stripes, fact)
            self.assertGreater(found.no, BILLION)
            self.assertEqual(found.yes, min(row[1] for row in heights_that_fit(stripes).rows))
            self.assertEqual(sure_fact(stripes, fact, 1, BILLION), Sure(found.yes))
            p, q = stripes.slope
            growth = Fraction(stripes.gaits[0], q) + Fraction(stripes.gaits[1], p)
            lengths = []
            for less in (0, 1):
                height = found.no - less * stripes.period
                low = height % stripes.period or stripes.period
                lengths.append(real_ribbon(stripes, low).length + (height - low) * growth)
            self.assertTrue(lengths[1] <= FAR < lengths[0])

    def test_lows_far_up(self):
        stripes, height = next(iter(some_stripes(4)))
        for low in (BILLION, BILLION - 3):
            found = sure_fact(stripes, ("length at most", (FAR, 1)), low)
            self.assertTrue(low <= found.yes < low + stripes.period)
            self.assertIsInstance(sure_fact(stripes, ("length at most", (5, 1)), low), Never)

    def test_growth_of_crossings_and_lengths(self):
        for stripes, height in some_stripes(24):
            if height > 5:
                continue
            size, (n, m), (p, q) = stripes.period, stripes.gaits, stripes.slope
            one, other = real_ribbon(stripes, height), None
            if height + size <= 60:
                other = real_ribbon(stripes, height + size)
                self.assertEqual(other.length - one.length, size * (Fraction(n, q) + Fraction(m, p)))
                if len(other) <= 400:
                    self.assertEqual(len(crossings_of(other)) - len(crossings_of(one)), n * m * (p * p + q * q))

    def test_bounds_refused(self):
        stripes, height = next(iter(some_stripes(4)))
        fact = ("rest", (1, 1))
        for wrong in NO_NUMBERS + [0, BILLION + 1]:
            refused(self, BadHeight, {"height": wrong}, sure_fact, stripes, fact, wrong, 0)
            if wrong is not None:
                refused(self, BadHeight, {"height": wrong}, sure_fact, stripes, fact, 1, wrong)
        for low, high in ((7, 6), (BILLION, 1), (5, 1)):
            refused(self, NoFitting, {"low": low, "high": high}, sure_fact, stripes, fact, low, high)

    def test_they_are_results(self):
        check_result(self, Sure, ["height"])
        check_result(self, Never, ["height"])
        check_result(self, Both, ["yes", "no"])

    def test_without_growth(self):
        # With the slope (3, 2) this ribbon goes over the belt by "p" alone, so it never crosses itself more often.
        stripes = Stripes((2, 1), (3, 2), [couple_of(chord_from((2, 1), (3, 2), "top", ((1, 11), "p")))])
        self.assertEqual(stripes.gaits, (2, 0))
        self.assertEqual(sure_fact(stripes, ("crossings at most", 0)), Sure(1))
        self.assertIs(fact_at(stripes, ("crossings at most", 0), 36 * 10 ** 7 + 1), True)


if __name__ == "__main__":
    unittest.main()
