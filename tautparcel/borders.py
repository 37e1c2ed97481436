"""Borders of lanes: corner ways, each behind the one before."""

from tautparcel.boxes import faces_of_corner
from tautparcel.cornerways import back_way, faces_round, way_from
from tautparcel.errors import BadSide
from tautparcel.facerows import begun_at
from tautparcel.ratios import is_sequence, is_whole
from tautparcel.slopes import check_slope

SIDES = ("left", "right")
MOST_WAYS = 24


class Border:
    """A border of a lane, once round."""
    def __init__(self, side, ways, length):
        self.side = side
        self.ways = ways
        self.length = length

    def __eq__(self, other):
        return (
            isinstance(other, Border) and self.side == other.side and self.ways == other.ways
            and self.length == other.length
        )


def check_side(side):
    """Returns a side of a way, or raises BadSide."""
    if side not in SIDES:
        raise BadSide(side)
    return side


def other_side(side):
    """Returns the side across a way."""
    return "right" if side == "left" else "left"


def face_beyond(corner, face, side):
    """Returns the face of a corner next after a face if the side is "left", the one just before it if "right"."""
    faces = faces_round(corner)
    step = 1 if side == "left" else -1
    return faces[(faces.index(face) + step) % 3]


def way_after(way, side):
    """Returns the way with which a border goes on behind a way."""
    face = face_beyond(way.finish, way.last, check_side(side))
    return way_from(way.box, way.finish, face, way.slope)


def way_before(way, side):
    """Returns the way behind which a way comes in a border."""
    # Gone backwards the border lies on the other side, and round the corner it turns the other way.
    return back_way(way_after(back_way(way), other_side(check_side(side))))


def border_of(way, side):
    """Returns the border with a way."""
    check_side(side)
    ways = [way]
    following = way_after(way, side)
    while following.key != way.key:
        ways.append(following)
        following = way_after(following, side)
    return border_made(side, ways)


def border_made(side, ways):
    """Returns the border of ways told once round, from any beginning."""
    keys = [way.key for way in ways]
    ways = begun_at(tuple(ways), keys.index(min(keys)))
    return Border(side, ways, sum([way.length for way in ways]))


def all_borders(box, slope, side):
    """Returns all borders of a side, ascending by their first keys."""
    slope = check_slope(slope)
    check_side(side)
    borders = []
    seen = {}
    for corner in range(8):
        for face in faces_of_corner(corner):
            if (corner, face) not in seen:
                border = border_of(way_from(box, corner, face, slope), side)
                borders.append(border)
                for way in border.ways:
                    seen[way.key] = True
    return tuple(borders)


def twin_border(border):
    """Returns the border of the twin: the same ways gone backwards."""
    return border_made(other_side(border.side), [back_way(way) for way in border.ways[::-1]])


def border_fault(box, slope, side, keys):
    """Judges keys as those of a border, once round, from any beginning: None, or (word, index)."""
    slope = check_slope(slope)
    check_side(side)
    if not is_sequence(keys, 1, MOST_WAYS):
        return ("many", 0)
    earlier = {}
    for index, item in enumerate(keys):
        if not is_key(item):
            return ("way", index)
        if tuple(item) in earlier:
            return ("twice", index)
        earlier[tuple(item)] = True
    following = [*keys[1:], keys[0]]
    for index, item in enumerate(keys):
        way = way_from(box, item[0], item[1], slope)
        if way_after(way, side).key != tuple(following[index]):
            return ("after", index)
    return None


def is_key(item):
    """Tells whether an item of any kind is a couple of a corner and a face at it."""
    if not is_sequence(item, 2, 2):
        return False
    corner, face = item
    return is_whole(corner, 0, 7) and is_whole(face, 0, 5) and face in faces_of_corner(corner)
