"""The bench: edits that stand, put and taken out again, and trials that leave no trace."""

from tautparcel.boxgoals import first_unmet
from tautparcel.edits import check_edits, wound
from tautparcel.errors import NoEdit
from tautparcel.ratios import is_whole


class Trial:
    """What a bench is at the entry of a trial, so that it is the same at the end."""
    def __init__(self, bench):
        self.bench = bench
        self.now = None
        self.standing = ()
        self.log = ()
        self.given = 0

    def __enter__(self):
        self.now = self.bench.now
        self.standing = self.bench.standing
        self.log = self.bench.log
        self.given = self.bench.given
        return self.bench

    def __exit__(self, kind, value, trace):
        bench = self.bench
        bench.now = self.now
        bench.standing = self.standing
        bench.log = self.log
        bench.given = self.given


class Bench:
    """A winding with the edits that stand, in the order in which they were put; `given` is the number last given."""
    def __init__(self, winding):
        self.start = winding
        self.now = wound(winding, ())
        self.standing = ()
        self.log = ()
        self.given = 0

    def __len__(self):
        return len(self.standing)

    def __iter__(self):
        return iter(self.standing)

    def wind(self, edit):
        """Puts an edit behind the standing ones and returns its number; raises BadEdit, then NoWinding."""
        checked = check_edits([edit])[0]
        now = wound(self.start, [*[held for _, held in self.standing], checked])
        number = self.given + 1
        self.now = now
        self.standing = (*self.standing, (number, checked))
        self.log = (*self.log, ("wind", number, checked))
        self.given = number
        return number

    def unwind(self, number):
        """Takes the standing edit with a number out; raises NoEdit, then NoWinding."""
        taken = [held for own, held in self.standing if is_whole(number) and own == number]
        if not taken:
            raise NoEdit(number)
        left = tuple([row for row in self.standing if row[0] != number])
        self.now = wound(self.start, [held for _, held in left])
        self.standing = left
        self.log = (*self.log, ("unwind", number, taken[0]))

    def unmet_now(self, goals):
        """Returns the index of the first goal that is not met now, or None."""
        return first_unmet(self.now.box, self.now.slope, goals)

    def trial(self):
        """Returns what is entered by a with: at its end the bench is as it was at its entry."""
        return Trial(self)

    def tried(self, call):
        """Returns what a function returns for the bench within a trial."""
        with self.trial() as bench:
            return call(bench)
