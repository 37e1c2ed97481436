"""Texts of ratios, boxes, slopes, places, rows of faces and entrances."""

from math import gcd

from tautparcel.boxes import Box, check_face
from tautparcel.errors import BadFace, BadText
from tautparcel.places import check_place
from tautparcel.ratios import ratio_text
from tautparcel.slopes import check_direction, check_slope

MOST_SIGNS = 2000
MOST_DIGITS = 30
DIGITS = "0123456789"


def check_text(text):
    """Raises BadText for something that is no string or has too many signs."""
    if not isinstance(text, str) or len(text) > MOST_SIGNS:
        raise BadText(text)


def number_in(text):
    """Returns the whole number that a text tells, or None."""
    digits = text[1:] if text.startswith("-") else text
    if not 1 <= len(digits) <= MOST_DIGITS or [sign for sign in digits if sign not in DIGITS]:
        return None
    if digits[0] == "0" and text != "0":
        return None
    return int(text)


def ratio_in(text):
    """Returns the ratio that a text tells, or None."""
    top_text, slash, bottom_text = text.partition("/")
    top = number_in(top_text)
    if slash == "":
        return None if top is None else (top, 1)
    bottom = number_in(bottom_text)
    if top is None or bottom is None or bottom < 2 or gcd(top, bottom) != 1:
        return None
    return (top, bottom)


def numbers_in(parts, many):
    """Returns so many whole numbers that the parts of a text tell, or None."""
    numbers = [number_in(part) for part in parts]
    if len(numbers) != many or None in numbers:
        return None
    return tuple(numbers)


def listed_in(text):
    """Returns the parts of a text like "(1, 2, 3)", none for a text without brackets."""
    if not text.startswith("(") or not text.endswith(")"):
        return []
    return text[1:-1].split(", ")


def ratios_in(text):
    """Returns the three ratios of a place that a text tells, or None."""
    ratios = [ratio_in(part) for part in listed_in(text)]
    if len(ratios) != 3 or None in ratios:
        return None
    return tuple(ratios)


def read_ratio(text):
    """Reads a ratio as ratio_text writes it."""
    check_text(text)
    ratio = ratio_in(text)
    if ratio is None:
        raise BadText(text)
    return ratio


def box_text(box):
    """Returns the text of a box: "1x2x3"."""
    return "x".join([f"{side}" for side in box.sides])


def read_box(text):
    """Reads a box as box_text writes it."""
    check_text(text)
    sides = numbers_in(text.split("x"), 3)
    if sides is None:
        raise BadText(text)
    return Box(sides)


def slope_text(slope):
    """Returns the text of a slope: "2:3"."""
    first, second = check_slope(slope, True)
    return f"{first}:{second}"


def read_slope(text):
    """Reads a slope as slope_text writes it."""
    check_text(text)
    slope = numbers_in(text.split(":"), 2)
    if slope is None:
        raise BadText(text)
    return check_slope(slope, True)


def place_text(box, place):
    """Returns the text of a place: "(1/2, 0, 1)"."""
    first, second, third = [ratio_text(entry) for entry in check_place(box, place)]
    return f"({first}, {second}, {third})"


def read_place(box, text):
    """Reads a place as place_text writes it."""
    check_text(text)
    place = ratios_in(text)
    if place is None:
        raise BadText(text)
    return check_place(box, place)


def row_text(row):
    """Returns the text of a sequence of faces: "1 5 0 4"."""
    if not isinstance(row, (list, tuple)):
        raise BadFace(row)
    return " ".join([f"{check_face(face)}" for face in row])


def read_row(text):
    """Reads a sequence of faces as row_text writes it."""
    check_text(text)
    if text == "":
        return ()
    words = text.split(" ")
    if [word for word in words if len(word) != 1 or word not in "012345"]:
        raise BadText(text)
    return tuple([int(word) for word in words])


def entrance_text(box, place, face, direction):
    """Returns the text of an entrance: "(1/2, 0, 1) on 2 towards (1, 0, -2)"."""
    start = place_text(box, place)
    first, second, third = check_direction(face, direction)
    return f"{start} on {face} towards ({first}, {second}, {third})"


def read_entrance(box, text):
    """Reads an entrance as entrance_text writes it."""
    check_text(text)
    place_part, _, rest = text.partition(" on ")
    face_part, _, direction_part = rest.partition(" towards ")
    place = ratios_in(place_part)
    face = number_in(face_part)
    direction = numbers_in(listed_in(direction_part), 3)
    if place is None or face is None or direction is None:
        raise BadText(text)
    return (check_place(box, place), face, check_direction(face, direction))
