"""FRACTIONS: pairs of integers in least terms."""

from forehouse.errors import BadFraction, BadFractions, BadNumber
from forehouse.exact import NOUGHT, added, divided, in_order, is_under, made, multiplied, taken
from forehouse.kinds import copied, is_fraction, is_integer


def sure_fraction(thing):
    """A plain copy of a FRACTION."""
    if not is_fraction(thing):
        raise BadFraction(thing)
    return copied(thing)


def need_fraction(thing):
    sure_fraction(thing)
    return thing


def ratio(top, bottom):
    if not is_integer(top):
        raise BadNumber(top)
    if not is_integer(bottom) or bottom == 0:
        raise BadNumber(bottom)
    return made(int(top), int(bottom))


def plus(one, other):
    one = sure_fraction(one)
    other = sure_fraction(other)
    return added(one, other)


def less(one, other):
    one = sure_fraction(one)
    other = sure_fraction(other)
    return taken(one, other)


def times(one, other):
    one = sure_fraction(one)
    other = sure_fraction(other)
    return multiplied(one, other)


def over(one, other):
    top = sure_fraction(one)
    bottom = sure_fraction(other)
    if bottom == NOUGHT:
        raise BadFraction(other)
    return divided(top, bottom)


def is_less(one, other):
    one = sure_fraction(one)
    other = sure_fraction(other)
    return is_under(one, other)


def ordered(some):
    if not isinstance(some, tuple) or not all([is_fraction(one) for one in some]):
        raise BadFractions(some)
    return tuple(in_order(copied(some)))
