"""Tables of the numbers of crossings of all lanes of a slope."""

from tautparcel.crossings import MOST_RIBBONS, meets_among
from tautparcel.errors import BadLaneLot, TooMany
from tautparcel.facerows import MOST_FACES, check_index
from tautparcel.lanes import lanes_of
from tautparcel.ratios import is_sequence, is_whole
from tautparcel.wherelane import middle_ribbon


class CrossTable:
    """The lanes of a slope without twins, and how often their ribbons cross one another and themselves."""
    def __init__(self, box, slope, lanes, rows):
        self.box = box
        self.slope = slope
        self.lanes = lanes
        self.rows = rows

    def __eq__(self, other):
        return (
            isinstance(other, CrossTable) and self.box == other.box and self.slope == other.slope
            and self.lanes == other.lanes and self.rows == other.rows
        )


def cross_table(box, slope):
    """Returns the table of crossings of a slope."""
    told = lanes_of(box, slope)
    lanes = told.lanes[::2]
    if sum(sorted([len(lane.faces) for lane in lanes])[-2:]) > MOST_FACES:
        raise TooMany(MOST_FACES)
    # All ribbons of a lane cross those of another one equally often, so one of each lane tells it.
    meets = meets_among([middle_ribbon(lane) for lane in lanes])
    rows = [[0] * len(lanes) for _ in lanes]
    for _, strands in meets.rows:
        one, other = strands[0][0], strands[1][0]
        rows[one][other] += 1
        if one != other:
            rows[other][one] += 1
    return CrossTable(box, told.slope, lanes, tuple([tuple(row) for row in rows]))


def measure_of(table, index):
    """Returns the sum of the breadths of all lanes that cross a lane, each as often as it does so."""
    check_index(index, len(table.lanes) - 1)
    counts = table.rows[index]
    own = counts[index] * table.lanes[index].breadth
    return own + sum([count * lane.breadth for count, lane in zip(counts, table.lanes)])


def table_sum(table):
    """Returns the sum over all crossings of lanes of the products of their breadths."""
    breadths = [lane.breadth for lane in table.lanes]
    total = 0
    for index, counts in enumerate(table.rows):
        for other in range(index, len(breadths)):
            total += counts[other] * breadths[index] * breadths[other]
    return total


def check_lane_lot(table, lot):
    """Returns a lane lot of a table, or raises BadLaneLot."""
    if not is_sequence(lot, 1, MOST_RIBBONS):
        raise BadLaneLot(0)
    for index, number in enumerate(lot):
        if not is_whole(number, 0, len(table.lanes) - 1):
            raise BadLaneLot(index)
    return lot


def crossings_told(table, lot):
    """Returns how often any unlike ribbons of these lanes cross, themselves and one another."""
    check_lane_lot(table, lot)
    total = 0
    for index, number in enumerate(lot):
        total += table.rows[number][number]
        for other in lot[:index]:
            times_met = 2 if other == number else 1
            total += times_met * table.rows[number][other]
    return total


def pieces_told(table, lot):
    """Returns into how many pieces any unlike ribbons of these lanes cut the skin."""
    crossings = crossings_told(table, lot)
    # Ribbons that never cross hang together with nothing; all others hang together.
    apart = len(lot) if crossings == 0 else 1
    return crossings + 1 + apart
