"""Shades of the corners: which ones lie on one side of a ribbon, or of a loop in it."""

from tautparcel.boxes import all_edges, edge_between, edge_ends
from tautparcel.crossings import check_many_passes, crossings_of
from tautparcel.errors import CrossesItself, NotCrossed
from tautparcel.places import check_place, compare_places, place_of_corner
from tautparcel.ratios import compare
from tautparcel.ribbons import start_moments


class Loop:
    """The closed part of a ribbon between two moments at a crossing with itself."""
    def __init__(self, place, first, second, corners, others):
        self.place = place
        self.first = first
        self.second = second
        self.corners = corners
        self.others = others

    def __eq__(self, other):
        return (
            isinstance(other, Loop) and self.place == other.place and self.first == other.first
            and self.second == other.second and self.corners == other.corners and self.others == other.others
        )


def edge_under(ribbon, index):
    """Returns the edge over which a ribbon comes to its pass with the index."""
    return edge_between(ribbon.faces[index - 1], ribbon.faces[index])


def shades_over(edges):
    """Returns the shades of the eight corners if a line goes over these edges, told as often as it does so."""
    shades = [0] * 8
    # Each corner but 0 hangs by one of these edges on a corner before it.
    for low, high in all_edges():
        shades[high] = (shades[low] + edges.count((low, high))) % 2
    return tuple(shades)


def corners_of_shade(shades, shade):
    """Returns the corners of a shade, ascending."""
    return tuple([corner for corner in range(8) if shades[corner] == shade])


def shades_of_corners(ribbon):
    """Returns for each corner whether a line from corner 0 to it goes over the ribbon an odd number of times."""
    check_many_passes([ribbon])
    return shades_over([edge_under(ribbon, index) for index in range(len(ribbon))])


def sides_of(ribbon):
    """Returns the corners on the left and on the right of a ribbon that does not cross itself."""
    shades = shades_of_corners(ribbon)
    crossings = crossings_of(ribbon)
    if crossings:
        raise CrossesItself(crossings[0].place)
    left = shade_on_left(ribbon, shades)
    return (corners_of_shade(shades, left), corners_of_shade(shades, 1 - left))


def shade_on_left(ribbon, shades):
    """Returns the shade just to the left of where a ribbon begins, an edge over which it comes."""
    corner = edge_ends(ribbon.faces[-1], ribbon.faces[0])[1]
    edge = edge_under(ribbon, 0)
    place = ribbon.passes[0].start
    far = compare_places(place_of_corner(ribbon.box, corner), place)
    between = [
        index for index, taken in enumerate(ribbon.passes)
        if edge_under(ribbon, index) == edge and compare_places(taken.start, place) == far
    ]
    return (shades[corner] + len(between)) % 2


def loop_at(ribbon, place):
    """Returns the loop of a ribbon at a place where it crosses itself."""
    check_many_passes([ribbon])
    fixed = check_place(ribbon.box, place)
    met = [crossing for crossing in crossings_of(ribbon) if crossing.place == fixed]
    if not met:
        raise NotCrossed(place)
    crossing = met[0]
    shades = shades_over(loop_edges(ribbon, crossing.first, crossing.second))
    corners = corners_of_shade(shades, 0)
    return Loop(crossing.place, crossing.first, crossing.second, corners, corners_of_shade(shades, 1))


def loop_edges(ribbon, first, second):
    """Returns the edges over which a ribbon goes between two moments at a place where it crosses itself."""
    moments = start_moments(ribbon)
    edges = [
        edge_under(ribbon, index) for index, moment in enumerate(moments)
        if compare(moment, first) > 0 and compare(moment, second) < 0
    ]
    if first in moments:
        # On an edge the loop goes over it if it leaves into one face and comes back from the other one.
        leaving, coming = moments.index(first), moments.index(second)
        if ribbon.faces[leaving] != ribbon.faces[coming - 1]:
            edges.append(edge_under(ribbon, leaving))
    return edges
