"""Slopes and directions, over edges and sideways."""

from math import gcd

from tautparcel.boxes import FACE_AXES, are_beside, check_face, face_axes
from tautparcel.errors import BadDirection, BadSlope, NotOver
from tautparcel.places import framed
from tautparcel.ratios import is_sequence, is_whole, minus, times

STEEPEST = 9
MOST_NUMBER = 10000
BAND = (1, 0)


def check_slope(slope, band=False):
    """Returns a slope as a tuple, or raises BadSlope; with band (1, 0) is let."""
    if not is_sequence(slope, 2, 2):
        raise BadSlope(slope)
    if [number for number in slope if not is_whole(number, 0, STEEPEST)]:
        raise BadSlope(slope)
    if band and tuple(slope) == BAND:
        return BAND
    if 0 in slope or gcd(slope[0], slope[1]) != 1:
        raise BadSlope(slope)
    return tuple(slope)


def mirrored_slope(slope):
    """Returns the slope seen in a mirror."""
    first, second = check_slope(slope, True)
    return BAND if second == 0 else (second, first)


def check_direction(face, direction):
    """Returns a direction on a face as a tuple; raises BadFace, then BadDirection."""
    check_face(face)
    if not is_sequence(direction, 3, 3):
        raise BadDirection("kind")
    if [number for number in direction if not is_whole(number, -MOST_NUMBER, MOST_NUMBER)]:
        raise BadDirection("kind")
    if direction[face // 2] != 0:
        raise BadDirection("axis")
    common = gcd(direction[0], direction[1], direction[2])
    if common == 0:
        raise BadDirection("both")
    if common != 1:
        raise BadDirection("common")
    return tuple(direction)


def unframed(face, first, second):
    """Returns the triple with two numbers over the face axes and 0 on the own axis."""
    axes = face_axes(face)
    triple = [0, 0, 0]
    triple[axes[0]] = first
    triple[axes[1]] = second
    return tuple(triple)


def quarter_turns(first, second):
    """Returns a couple and its three quarter turns to the left."""
    return ((first, second), (-second, first), (-first, -second), (second, -first))


def directions_on(face, slope):
    """Returns the four directions of a slope on a face, ascending."""
    check_face(face)
    first, second = check_slope(slope, True)
    return tuple(sorted([unframed(face, one, other) for one, other in quarter_turns(first, second)]))


def slope_of(face, direction):
    """Returns the slope of a direction."""
    return slope_on(face, check_direction(face, direction))


def slope_on(face, direction):
    """Returns the slope of a direction of any size, and checks nothing."""
    first, second = framed(face, direction)
    turns = quarter_turns(first, second)
    return [turn for turn in turns if turn[0] >= 1 and turn[1] >= 0][0]


def reversed_direction(direction):
    """Returns the direction negated, and checks nothing."""
    return tuple([-number for number in direction])


def back_of(face, direction):
    """Returns the opposite direction."""
    return reversed_direction(check_direction(face, direction))


def left_of(face, direction):
    """Returns the direction a quarter turn to the left."""
    first, second = framed(face, check_direction(face, direction))
    return unframed(face, -second, first)


def outward_step(beside, direction):
    """Returns the number of a triple along the outward axis of a face."""
    number = direction[beside // 2]
    return number if beside % 2 == 1 else -number


def over_edge(face, beside, direction):
    """Returns the direction on the face beside."""
    check_face(face)
    check_face(beside)
    direction = check_direction(face, direction)
    if not are_beside(face, beside) or outward_step(beside, direction) <= 0:
        raise NotOver(face, beside)
    return turned_over(face, beside, direction)


def turned_over(face, beside, direction):
    """Returns the direction on the face beside, and checks nothing."""
    step = outward_step(beside, direction)
    turned = list(direction)
    turned[beside // 2] = 0
    turned[face // 2] = -step if face % 2 == 1 else step
    return tuple(turned)


def sideways(face, direction, place):
    """Returns the ratio that tells how far to the left of a direction a place of the face lies."""
    first, second = framed(face, direction)
    one, other = framed(face, place)
    return minus(times((first, 1), other), times((second, 1), one))


def side_number(face, direction, numbers):
    """Returns the sideways measure of a place with whole numbers, and checks nothing."""
    first, second = FACE_AXES[face]
    return direction[first] * numbers[second] - direction[second] * numbers[first]


def ahead_number(direction, numbers):
    """Returns how far ahead in a direction a place with whole numbers lies, times the direction's square."""
    return sum([one * other for one, other in zip(direction, numbers)])
