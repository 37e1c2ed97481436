"""The errors of the package: each one stands directly under ParcelError."""


class ParcelError(ValueError):
    """What stands over all errors of the package."""


class BadRatio(ParcelError):
    """A ratio can't be made or divided by: `what` is "top", "bottom" or "zero"."""
    def __init__(self, what):
        self.what = what


class BadBox(ParcelError):
    """The side at the index is none."""
    def __init__(self, index):
        self.index = index


class BadCorner(ParcelError):
    """This is no corner."""
    def __init__(self, corner):
        self.corner = corner


class BadFace(ParcelError):
    """This is no face."""
    def __init__(self, face):
        self.face = face


class BadEdge(ParcelError):
    """This is no edge."""
    def __init__(self, edge):
        self.edge = edge


class NoEdge(ParcelError):
    """Two faces that are equal or opposite have no common edge."""
    def __init__(self, face, beside):
        self.face = face
        self.beside = beside


class BadPlace(ParcelError):
    """This is no place of the skin."""
    def __init__(self, place):
        self.place = place


class BadSlope(ParcelError):
    """This is no slope."""
    def __init__(self, slope):
        self.slope = slope


class BadDirection(ParcelError):
    """A direction is wrong: `what` is "kind", "axis", "both" or "common"."""
    def __init__(self, what):
        self.what = what


class NotOver(ParcelError):
    """A direction does not lead over an edge to the face beside."""
    def __init__(self, face, beside):
        self.face = face
        self.beside = beside


class BadHow(ParcelError):
    """This is no how."""
    def __init__(self, how):
        self.how = how


class BadSize(ParcelError):
    """This is no size to scale by."""
    def __init__(self, size):
        self.size = size


class BadText(ParcelError):
    """The text is not of the form that is read."""
    def __init__(self, text):
        self.text = text


class TooMany(ParcelError):
    """There are more than so many."""
    def __init__(self, most):
        self.most = most


class BadStart(ParcelError):
    """An entrance is wrong: `what` is "face", "corner", "along" or "out"."""
    def __init__(self, what):
        self.what = what


class AtCorner(ParcelError):
    """A pass ends or starts at this corner."""
    def __init__(self, corner):
        self.corner = corner


class BadCount(ParcelError):
    """This is no number of passes."""
    def __init__(self, count):
        self.count = count


class BadIndex(ParcelError):
    """This is no index."""
    def __init__(self, index):
        self.index = index


class BadFaceRow(ParcelError):
    """The row of faces is wrong at the index."""
    def __init__(self, index):
        self.index = index


class BadPoint(ParcelError):
    """This is no point of the laid face."""
    def __init__(self, point):
        self.point = point


class BadOffset(ParcelError):
    """This is no offset in the lane."""
    def __init__(self, offset):
        self.offset = offset


class BadMost(ParcelError):
    """This is no bound that is let."""
    def __init__(self, most):
        self.most = most


class BadStrip(ParcelError):
    """A strip is wrong: `what` is "low" or "high"."""
    def __init__(self, what):
        self.what = what


class NoLane(ParcelError):
    """No lane is meant by this thing."""
    def __init__(self, thing):
        self.thing = thing


class OtherLane(ParcelError):
    """The ribbon lies in another lane."""
    def __init__(self, ribbon):
        self.ribbon = ribbon


class NotAtCorner(ParcelError):
    """The face is not at the corner."""
    def __init__(self, corner, face):
        self.corner = corner
        self.face = face


class BadSide(ParcelError):
    """This is no side."""
    def __init__(self, side):
        self.side = side


class BadNumber(ParcelError):
    """This is no number of a lane."""
    def __init__(self, number):
        self.number = number


class OtherBox(ParcelError):
    """The other thing is on a box with these sides."""
    def __init__(self, sides):
        self.sides = sides


class OtherSlope(ParcelError):
    """The other thing has this slope."""
    def __init__(self, slope):
        self.slope = slope


class SameRibbon(ParcelError):
    """Both ribbons are one, of this length."""
    def __init__(self, length):
        self.length = length


class BadLot(ParcelError):
    """The lot is wrong at the index."""
    def __init__(self, index, what):
        self.index = index
        self.what = what


class CrossesItself(ParcelError):
    """The ribbon crosses itself at this place."""
    def __init__(self, place):
        self.place = place


class NotCrossed(ParcelError):
    """The ribbon does not cross itself at this place."""
    def __init__(self, place):
        self.place = place


class OnRibbon(ParcelError):
    """The place lies on the ribbon of this number."""
    def __init__(self, place, number):
        self.place = place
        self.number = number


class BadLaneLot(ParcelError):
    """The lot of lanes is wrong at the index."""
    def __init__(self, index):
        self.index = index


class BadLength(ParcelError):
    """This is no length along."""
    def __init__(self, length):
        self.length = length


class BadNth(ParcelError):
    """This is no number of a pass."""
    def __init__(self, number):
        self.number = number


class BadBeat(ParcelError):
    """The beat of this index is wrong."""
    def __init__(self, index, what):
        self.index = index
        self.what = what


class BadWalk(ParcelError):
    """A walk is wrong: `what` is "start" or "pace"."""
    def __init__(self, what):
        self.what = what


class BadTime(ParcelError):
    """This is no time."""
    def __init__(self, time):
        self.time = time


class BadAxis(ParcelError):
    """This is no axis."""
    def __init__(self, axis):
        self.axis = axis


class BadLevel(ParcelError):
    """This is no level of the axis."""
    def __init__(self, level):
        self.level = level


class BadSteep(ParcelError):
    """This is no bound of slopes."""
    def __init__(self, steep):
        self.steep = steep


class BadBase(ParcelError):
    """The base is wrong at the index."""
    def __init__(self, index):
        self.index = index


class BadHeight(ParcelError):
    """This is no height."""
    def __init__(self, height):
        self.height = height


class BadSpot(ParcelError):
    """This is no spot of the rim."""
    def __init__(self, spot):
        self.spot = spot


class BadCap(ParcelError):
    """This is no cap."""
    def __init__(self, cap):
        self.cap = cap


class BadGait(ParcelError):
    """This is no gait."""
    def __init__(self, gait):
        self.gait = gait


class BadMark(ParcelError):
    """This is no mark."""
    def __init__(self, mark):
        self.mark = mark


class BadDay(ParcelError):
    """This is no day."""
    def __init__(self, day):
        self.day = day


class BadGoal(ParcelError):
    """This is no goal."""
    def __init__(self, goal):
        self.goal = goal


class BadChord(ParcelError):
    """A chord is wrong: `what` is "couple", "spot", "corner" or "chord"."""
    def __init__(self, what):
        self.what = what


class BadStripes(ParcelError):
    """The stripes are wrong at the index."""
    def __init__(self, index, what):
        self.index = index
        self.what = what


class BadFact(ParcelError):
    """This is no fact."""
    def __init__(self, what):
        self.what = what


class NotFitting(ParcelError):
    """The stripes do not fit the height."""
    def __init__(self, height):
        self.height = height


class NoFitting(ParcelError):
    """The stripes fit no height between these two."""
    def __init__(self, low, high):
        self.low = low
        self.high = high


class BadGoals(ParcelError):
    """The goals are wrong at the index."""
    def __init__(self, index):
        self.index = index


class BadEdit(ParcelError):
    """The edit at the index is wrong."""
    def __init__(self, index, what):
        self.index = index
        self.what = what


class NoWinding(ParcelError):
    """Behind the edit at the index there is no box."""
    def __init__(self, index):
        self.index = index


class NoEdit(ParcelError):
    """No standing edit has this number."""
    def __init__(self, number):
        self.number = number
