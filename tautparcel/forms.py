"""Forms of the corner ways and of the lanes of all heights of a day, and what the top shows of the rest."""

from tautparcel.belts import MOST_DAYS, check_base, check_day, check_days, check_mark, height_of_day
from tautparcel.boxes import faces_of_corner
from tautparcel.ratios import compare, lowest, minus, plus, times
from tautparcel.rims import GAITS, Rim, over_belt, over_cap, rim_corner, spot_of
from tautparcel.slopes import check_slope
from tautparcel.trails import legs_on, self_crossings, trail_from_corner, trail_of


class WayForm:
    """A corner way at every height of a day; its length is a form."""
    def __init__(self, start, face, finish, last, rest, by_p, by_q):
        self.start = start
        self.face = face
        self.finish = finish
        self.last = last
        self.rest = rest
        self.by_p = by_p
        self.by_q = by_q

    def __eq__(self, other):
        return (
            isinstance(other, WayForm) and self.start == other.start and self.face == other.face
            and self.finish == other.finish and self.last == other.last and self.rest == other.rest
            and self.by_p == other.by_p and self.by_q == other.by_q
        )


class LaneForm:
    """A lane at every height of a day: its length is a form, and its slices tell where it comes up onto the top."""
    def __init__(self, breadth, rest, by_p, by_q, selfs, slices):
        self.breadth = breadth
        self.rest = rest
        self.by_p = by_p
        self.by_q = by_q
        self.selfs = selfs
        self.slices = slices

    def __eq__(self, other):
        return (
            isinstance(other, LaneForm) and self.breadth == other.breadth and self.rest == other.rest
            and self.by_p == other.by_p and self.by_q == other.by_q and self.selfs == other.selfs
            and self.slices == other.slices
        )


class Stretch:
    """Spots over which rays leave the top, and those over which they come up next, turned about."""
    def __init__(self, gait, low, high, to_gait, to_low, to_high):
        self.gait = gait
        self.low = low
        self.high = high
        self.to_gait = to_gait
        self.to_low = to_low
        self.to_high = to_high

    def __eq__(self, other):
        return (
            isinstance(other, Stretch) and self.gait == other.gait and self.low == other.low
            and self.high == other.high and self.to_gait == other.to_gait and self.to_low == other.to_low
            and self.to_high == other.to_high
        )


def checked_rim(base, slope, day):
    """Returns the rim of a base and a slope; raises BadBase, BadSlope, BadDay."""
    base = check_base(base)
    slope = check_slope(slope)
    check_day(base, slope, day)
    return Rim(base, slope)


def corner_trails(rim, height):
    """Returns (corner, face, trail) for the 24 corner ways of a height, ascending."""
    keys = [(corner, face) for corner in range(8) for face in faces_of_corner(corner)]
    return [(corner, face, trail_from_corner(rim, height, corner, face)) for corner, face in keys]


def way_forms(base, slope, day):
    """Returns the 24 corner ways of a day, ascending by corner and face."""
    rim = checked_rim(base, slope, day)
    check_days(rim.days, MOST_DAYS)
    forms = []
    for corner, face, trail in corner_trails(rim, height_of_day(rim.days, day)):
        by_p, by_q = trail.belts
        forms.append(WayForm(corner, face, trail.corner, trail.last, trail.rest, by_p, by_q))
    return tuple(forms)


def slices_at(rim, height):
    """Returns (gait, low, high) of the slices of all lanes, by whole numbers, ascending."""
    met = ({}, {})
    for gait in range(2):
        for spot in (*rim.corners, rim.length):
            met[gait][rim.weights[gait] * spot] = True
    for _, _, trail in corner_trails(rim, height):
        for leg in legs_on(trail, 0):
            met[leg.gait][leg.number] = True
    found = []
    for gait in range(2):
        numbers = sorted(met[gait])
        found.extend([(gait, low, high) for low, high in zip(numbers, numbers[1:])])
    return found


def lanes_by_slices(rim, height):
    """Returns (slices, trail) for each lane: its slices and the trail of the ribbon in its middle, ascending."""
    slices = slices_at(rim, height)
    known = {}
    lanes = []
    for gait, low, high in slices:
        if (gait, low) not in known:
            trail = trail_of(rim, height, (0, gait, low + high), 2)
            own = {}
            for leg in legs_on(trail, 0):
                begin = (leg.number - (high - low)) // 2
                own[(leg.gait, begin)] = begin + high - low
                known[(leg.gait, begin)] = True
            lanes.append(([(key[0], key[1], own[key]) for key in sorted(own)], trail))
    return lanes


def growth_of(slope, by_p, by_q):
    """Returns by how much the number of a ribbon's crossings with itself grows from a height of a day to the next."""
    return by_p * by_q * (slope[0] * slope[0] + slope[1] * slope[1])


def lanes_on(rim, day):
    """Returns the lane forms of a day, and checks nothing."""
    height = height_of_day(rim.days, day)
    forms = []
    for slices, trail in lanes_by_slices(rim, height):
        by_p, by_q = trail.belts
        grown = lowest(height * growth_of(rim.slope, by_p, by_q), rim.days)
        selfs = minus((self_crossings(trail, height), 1), grown)
        told = [
            (GAITS[gait], spot_of(rim, gait, low, 1), spot_of(rim, gait, high, 1)) for gait, low, high in slices
        ]
        forms.append(LaneForm(slices[0][2] - slices[0][1], trail.rest, by_p, by_q, selfs, tuple(told)))
    return tuple(forms)


def crossings_by_form(rim, form, height):
    """Returns how often a ribbon of a lane form crosses itself at a height, a whole number."""
    grown = lowest(height * growth_of(rim.slope, form.by_p, form.by_q), rim.days)
    return plus(form.selfs, grown)[0]


def lane_forms(base, slope, day):
    """Returns the forms of all lanes of a day, twins too, ascending by their first slices."""
    rim = checked_rim(base, slope, day)
    check_days(rim.days, MOST_DAYS)
    return lanes_on(rim, day)


def lane_of_mark(base, slope, day, mark):
    """Returns (index, offset) of the ray that comes up at a mark, or None if it meets a corner."""
    rim = checked_rim(base, slope, day)
    spot, gait = check_mark(base, mark)
    check_days(rim.days, MOST_DAYS)
    weight = rim.weights[GAITS.index(gait)]
    for index, form in enumerate(lanes_on(rim, day)):
        for slice_gait, low, high in form.slices:
            if slice_gait == gait and compare(low, spot) < 0 and compare(spot, high) < 0:
                return (index, times(minus(high, spot), (weight, 1)))
    return None


def down_and_up(rim, height, gait, number, scale):
    """Returns the gait and number by which a ray that leaves the top comes up next, or None if it meets a corner."""
    number = over_belt(rim, height, 0, gait, number, scale)
    if rim_corner(rim, gait, number, scale) is not None:
        return None
    to_gait, number, _ = over_cap(rim, 1, gait, number, scale)
    if rim_corner(rim, to_gait, number, scale) is not None:
        return None
    return (to_gait, over_belt(rim, height, 1, to_gait, number, scale))


def is_break(rim, height, gait, number):
    """Tells whether a spot is a corner, or the ray that leaves the top there meets one until it comes up."""
    if rim_corner(rim, gait, number, 1) is not None:
        return True
    found = down_and_up(rim, height, gait, number, 1)
    return found is None or rim_corner(rim, found[0], found[1], 1) is not None


def top_shows(base, slope, day):
    """Returns the stretches of all spots of the rim: how rays that leave the top come up again."""
    rim = checked_rim(base, slope, day)
    check_days(rim.days, MOST_DAYS)
    height = height_of_day(rim.days, day)
    found = []
    for gait in range(2):
        once = rim.length * rim.weights[gait]
        breaks = [number for number in range(once) if is_break(rim, height, gait, number)]
        for low, high in zip(breaks, [*breaks[1:], once]):
            to_gait, middle = down_and_up(rim, height, gait, low + high, 2)
            to_low = (middle - (high - low)) // 2
            ends = [spot_of(rim, gait, low, 1), spot_of(rim, gait, high, 1)]
            to_ends = [spot_of(rim, to_gait, to_low, 1), spot_of(rim, to_gait, to_low + high - low, 1)]
            found.append(Stretch(GAITS[gait], ends[0], ends[1], GAITS[to_gait], to_ends[0], to_ends[1]))
    return tuple(found)
