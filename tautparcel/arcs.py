"""Arcs of ribbons between crossings, and ways over pieces that lie beside each other."""

from tautparcel.crossings import check_lot, strand_moment
from tautparcel.pieces import cut_by, home_of, home_of_part, lines_below
from tautparcel.places import place_of_corner
from tautparcel.ratios import HALF, ZERO, compare, least_of, minus, plus, times
from tautparcel.ribbons import start_moments
from tautparcel.slopes import reversed_direction
from tautparcel.steps import moved_place


class Arc:
    """A part of a ribbon between two crossings, and the pieces on its left and on its right."""
    def __init__(self, number, moment, length, left, right):
        self.number = number
        self.moment = moment
        self.length = length
        self.left = left
        self.right = right

    def __eq__(self, other):
        return (
            isinstance(other, Arc) and self.number == other.number and self.moment == other.moment
            and self.length == other.length and self.left == other.left and self.right == other.right
        )


def arcs_of(ribbons):
    """Returns the arcs of a lot, by ribbon, then by moment."""
    return arcs_in(cut_by(check_lot(ribbons)))


def arcs_in(cut):
    """Returns the arcs of the ribbons that cut the skin."""
    moments = crossing_moments(cut)
    arcs = []
    for number, ribbon in enumerate(cut.ribbons):
        # Without crossings the one arc begins where the ribbon does.
        begins = moments[number] or [ZERO]
        ends = [*begins[1:], plus(begins[0], (ribbon.length, 1))]
        for moment, end, met in zip(begins, ends, arc_places(ribbon, begins, ends)):
            left, right = pieces_beside(cut, met[0], met[1])
            arcs.append(Arc(number, moment, minus(end, moment), left, right))
    return tuple(arcs)


def crossing_moments(cut):
    """Returns for each ribbon the ascending moments at which it is at a crossing."""
    moments = [[] for _ in cut.ribbons]
    strands = [strand for _, couple in cut.meets.rows for strand in couple]
    for met in sorted(strands):
        moments[met[0]].append(strand_moment(cut.meets, met))
    return moments


def arc_places(ribbon, begins, ends):
    """Returns for each arc the pass on which it begins, and a place of it there that is no crossing."""
    starts = start_moments(ribbon)
    starts.append((ribbon.length, 1))
    index = 0
    found = []
    for moment, end in zip(begins, ends):
        while compare(starts[index + 1], moment) <= 0:
            index += 1
        until = least_of([end, starts[index + 1]])
        taken = ribbon.passes[index]
        gone = minus(times(plus(moment, until), HALF), starts[index])
        found.append((taken, moved_place(taken.start, taken.direction, gone)))
    return found


def pieces_beside(cut, taken, place):
    """Returns the numbers of the pieces on the left and on the right of a pass at a place that is no crossing."""
    grid = cut.grids[taken.face]
    below = lines_below(grid, place)
    back = reversed_direction(taken.direction)
    beyond = list(below)
    beyond[0 if grid.directions[0] in (taken.direction, back) else 1] += 1
    near = home_of_part(cut, taken.face, below)
    far = home_of_part(cut, taken.face, beyond)
    # Sides grow to the left of the direction by which they are measured.
    return (far, near) if taken.direction in grid.directions else (near, far)


def pieces_next(cut):
    """Returns for each piece the ascending numbers of the pieces beside it."""
    beside = [{} for _ in cut.lots]
    for arc in arcs_in(cut):
        beside[arc.left][arc.right] = True
        beside[arc.right][arc.left] = True
    return [sorted(found) for found in beside]


def distances_from(beside, number):
    """Returns how many arcs the shortest ways from the piece with a number to each piece go over, as a dict."""
    distances = {number: 0}
    reached = [number]
    done = 0
    while done < len(reached):
        here = reached[done]
        done += 1
        for other in beside[here]:
            if other not in distances:
                distances[other] = distances[here] + 1
                reached.append(other)
    return distances


def shades_of_pieces(ribbons):
    """Returns the shades of the pieces: 0 for the one with corner 0, and unlike ones at each arc."""
    cut = cut_by(check_lot(ribbons))
    distances = distances_from(pieces_next(cut), home_of(cut, place_of_corner(cut.box, 0)))
    return tuple([distances[number] % 2 for number in range(len(cut.lots))])


def way_apart(ribbons, place, other):
    """Returns the least of the shortest ways over pieces from one place to the other."""
    cut = cut_by(check_lot(ribbons))
    way = [home_of(cut, place)]
    finish = home_of(cut, other)
    beside = pieces_next(cut)
    distances = distances_from(beside, finish)
    while way[-1] != finish:
        here = way[-1]
        way.append([number for number in beside[here] if distances[number] < distances[here]][0])
    return tuple(way)
