"""Counts of faces and edges in rows, and the lengths and breadths that they tell."""

from tautparcel.boxes import all_edges, edge_between
from tautparcel.facerows import check_facerow
from tautparcel.ratios import lowest
from tautparcel.slopes import check_slope
from tautparcel.unfolding import row_gates


def counts_over(row):
    """Returns how often each face stands in a row, which is not checked."""
    return tuple([row.count(face) for face in range(6)])


def edges_over(row):
    """Returns how often a row, which is not checked, goes over each edge."""
    edges = [edge_between(face, beside) for face, beside in row_gates(row)]
    return tuple([edges.count(edge) for edge in all_edges()])


def face_counts(row):
    """Returns how often each face stands in a row of faces."""
    return counts_over(check_facerow(row))


def edge_counts(row):
    """Returns how often a row of faces goes over each edge, in the order of all edges."""
    return edges_over(check_facerow(row))


def length_by_counts(box, slope, row):
    """Returns the length that the counts of a row tell, which is that of its lane if it has one of this slope."""
    first, second = check_slope(slope, True)
    counts = face_counts(row)
    total = sum([count * box.sides[face // 2] for face, count in enumerate(counts)])
    return lowest(total, first + second)


def breadths_by_face(lanes):
    """Returns for each face the sum over all lanes of breadth times count."""
    return breadth_sums(lanes, [counts_over(lane.faces) for lane in lanes])


def breadths_by_edge(lanes):
    """Returns for each edge the sum over all lanes of breadth times count."""
    return breadth_sums(lanes, [edges_over(lane.faces) for lane in lanes])


def breadth_sums(lanes, counts):
    """Returns the sums over lanes of the breadth times each of the lane's counts."""
    totals = [0] * len(counts[0])
    for lane, told in zip(lanes, counts):
        totals = [total + lane.breadth * count for total, count in zip(totals, told)]
    return tuple(totals)


def least_length(box, slope):
    """Returns a whole length that no ribbon of a slope, not of a band, falls short of."""
    first, second = check_slope(slope)
    many = first + second
    least = (2 * sum(box.sides) + many - 1) // many
    # Lengths are even where the sum of the slope's numbers is odd.
    return least + 1 if many % 2 == 1 and least % 2 == 1 else least


def shortest_square(box):
    """Returns the true length squared of the shortest ribbons of a box, which are those of a band."""
    sides = sorted(box.sides)
    return 4 * (sides[0] + sides[1]) ** 2
