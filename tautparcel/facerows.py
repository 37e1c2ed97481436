"""Rows of faces, read round."""

from tautparcel.errors import BadFaceRow, BadIndex
from tautparcel.ratios import is_sequence, is_whole

LEAST_FACES = 3
MOST_FACES = 400


def check_facerow(row):
    """Returns a row of faces as a tuple, or raises BadFaceRow."""
    if not is_sequence(row, LEAST_FACES, MOST_FACES):
        raise BadFaceRow(0)
    for index, face in enumerate(row):
        if not is_whole(face, 0, 5):
            raise BadFaceRow(index)
    many = len(row)
    for index, face in enumerate(row):
        if face // 2 == row[(index + 1) % many] // 2 or face == row[(index + 2) % many]:
            raise BadFaceRow(index)
    return tuple(row)


def check_index(index, most):
    """Returns an index from 0 to the most, or raises BadIndex."""
    if not is_whole(index, 0, most):
        raise BadIndex(index)
    return index


def begun_row(row, index):
    """Returns the row that begins with the face at the index."""
    row = check_facerow(row)
    check_index(index, len(row) - 1)
    return begun_at(row, index)


def begun_at(row, index):
    """Returns a tuple that begins with its item at the index, read round, and checks nothing."""
    return (*row[index:], *row[:index])


def turned_back(row):
    """Returns a tuple read backwards from its first item, and checks nothing."""
    return (*row[:1], *row[:0:-1])


def back_row(row):
    """Returns the row in the other sense, which begins with the same face."""
    return turned_back(check_facerow(row))


def least_start(row):
    """Returns an index at which the least of all beginnings of a tuple begins, and checks nothing."""
    lowest_face = min(row)
    starts = [index for index, face in enumerate(row) if face == lowest_face]
    return min([(begun_at(row, index), index) for index in starts])[1]


def least_either(row):
    """Returns the least of all beginnings of a tuple in both senses, and checks nothing."""
    back = turned_back(row)
    return min(begun_at(row, least_start(row)), begun_at(back, least_start(back)))


def least_begun(row):
    """Returns the least of the rows that the row gives by beginning elsewhere."""
    row = check_facerow(row)
    return begun_at(row, least_start(row))


def least_row(row):
    """Returns the least of all beginnings of the row in both senses."""
    return least_either(check_facerow(row))


def same_row(row, other):
    """Tells whether two rows have one least row."""
    row = check_facerow(row)
    other = check_facerow(other)
    return least_either(row) == least_either(other)


def single_row(row):
    """Returns the shortest tuple of faces that gives the row, told once or several times."""
    row = check_facerow(row)
    return row[:single_length(row)]


def single_length(row):
    """Returns how many items of a tuple give it, told once or several times, and checks nothing."""
    many = len(row)
    sizes = [size for size in range(1, many + 1) if many % size == 0]
    return [size for size in sizes if row[:size] * (many // size) == row][0]
