import unittest

from beltwalk import bases_and_slopes
from helping import NO_NUMBERS, check_result, refused
from test_stripes import chord_of, chords_at
from tautparcel.belts import days_of, first_height
from tautparcel.errors import BadHeight
from tautparcel.fitting import Misfit, NoHeight, heights_that_fit, heights_that_have, misfit_at
from tautparcel.heights import Heights
from tautparcel.stripes import Stripes, stripes_at


def drawn(base, slope):
    """Stripes that some heights fit, parts of them, and such that are put together from several ribbons."""
    size = days_of(base, slope)
    chords = list(chords_at(base, slope, 3))
    whole = [stripes_at(base, slope, height, chord) for height in (1, size // 2 + 1, size) for chord in chords[::4]]
    whole = [stripes for stripes in whole if stripes is not None]
    parts = [Stripes(base, slope, stripes.chords[1:]) for stripes in whole[::3] if len(stripes) > 1]
    parts += [Stripes(base, slope, stripes.chords[::2]) for stripes in whole[1::3]]
    mixed = [Stripes(base, slope, chords[start:start + many]) for start in (0, 3, 5) for many in (1, 2, 4)]
    more = [chord for chord in chords if chord not in whole[0].chords][:1]
    return whole[:6] + parts[:6] + mixed + [Stripes(base, slope, [*whole[0].chords, *more])]


def ribbon_at(stripes, height, chord=None):
    return stripes_at(stripes.base, stripes.slope, height, chord or stripes.chords[0])


def has(stripes, height):
    found = ribbon_at(stripes, height)
    return found is not None and set(stripes.chords) <= set(found.chords)


class Fitting(unittest.TestCase):
    def test_day_by_day(self):
        kinds = {"fit": 0, "index": 0, "none": 0}
        for base, slope in bases_and_slopes(24):
            size = days_of(base, slope)
            for stripes in drawn(base, slope):
                days = {day: first_height(base, slope, day) for day in range(size)}
                have = [day for day in days if has(stripes, days[day])]
                fit = [day for day in days if ribbon_at(stripes, days[day]) == stripes]
                rows = tuple((day, days[day], None) for day in have)
                self.assertEqual(heights_that_have(stripes), Heights(size, rows))
                found = heights_that_fit(stripes)
                if fit:
                    self.assertEqual(found, Heights(size, tuple((day, days[day], None) for day in fit)))
                    kinds["fit"] += 1
                elif have:
                    self.assertEqual(found, NoHeight(None))
                    kinds["none"] += 1
                else:
                    parts = [Stripes(base, slope, stripes.chords[:index + 1]) for index in range(len(stripes))]
                    least = [index for index, part in enumerate(parts) if not heights_that_have(part).rows][0]
                    self.assertEqual(found, NoHeight(least))
                    kinds["index"] += 1
        self.assertGreater(min(kinds.values()), 10, kinds)

    def test_all_heights_of_the_days(self):
        base, slope = (2, 1), (1, 2)
        stripes = stripes_at(base, slope, 5, chord_of(base, slope))
        found = heights_that_fit(stripes)
        for height in list(range(1, 40)) + [10 ** 9 - 1, 10 ** 9]:
            self.assertIs(found.holds(height), ribbon_at(stripes, height) == stripes)
        self.assertTrue(found.holds(5) and found.holds(5 + 12 * 10 ** 20))

    def test_no_day_without_a_corner(self):
        # A line that runs into a corner on the top itself is no chord; one that meets a corner on all days is none.
        found = []
        for base, slope in bases_and_slopes(60):
            for chord in chords_at(base, slope, 2):
                stripes = Stripes(base, slope, [chord])
                if not heights_that_have(stripes).rows:
                    self.assertEqual(heights_that_fit(stripes), NoHeight(0))
                    self.assertTrue(all(ribbon_at(stripes, height) is None for height in range(1, stripes.period + 1)))
                    found.append(stripes)
        self.assertGreater(len(found), 20)
        for stripes in found[::5]:
            self.assertEqual(misfit_at(stripes, 1), Misfit("corner", stripes.chords[0]))

    def test_they_are_results(self):
        check_result(self, NoHeight, ["index"])
        check_result(self, Misfit, ["what", "chord"])


class Misfits(unittest.TestCase):
    def test_at_each_height(self):
        words = {}
        for base, slope in bases_and_slopes(24):
            for stripes in drawn(base, slope):
                for height in range(1, min(days_of(base, slope), 12) + 1):
                    ribbon = ribbon_at(stripes, height)
                    found = misfit_at(stripes, height)
                    if ribbon is None:
                        told = Misfit("corner", stripes.chords[0])
                    elif ribbon == stripes:
                        told = None
                    else:
                        apart = [chord for chord in stripes if chord not in ribbon.chords]
                        more = [chord for chord in ribbon if chord not in stripes.chords]
                        told = Misfit("apart", apart[0]) if apart else Misfit("more", more[0])
                    self.assertEqual(found, told)
                    word = None if found is None else found.what
                    words[word] = words.get(word, 0) + 1
        self.assertEqual(set(words), {None, "corner", "apart", "more"})
        self.assertGreater(min(words.values()), 20, words)

    def test_far_up(self):
        base, slope = (1, 2), (2, 1)
        stripes = stripes_at(base, slope, 7, chord_of(base, slope))
        self.assertIsNone(misfit_at(stripes, 7 + 12 * 10 ** 7))
        self.assertEqual(misfit_at(stripes, 8 + 12 * 10 ** 7), misfit_at(stripes, 8))

    def test_refused(self):
        stripes = stripes_at((1, 1), (1, 1), 1, chord_of((1, 1), (1, 1)))
        for height in NO_NUMBERS + [0, 10 ** 9 + 1]:
            refused(self, BadHeight, {"height": height}, misfit_at, stripes, height)


if __name__ == "__main__":
    unittest.main()
