"""Whether one SHARE is WIDER than another one: their RESTS, and why it is not so."""

from math import lcm

from forehouse.errors import NotWider
from forehouse.exact import added_up, excess, is_under, made, multiplied, unlike_in_order
from forehouse.shares import numbers_of


def rest_of(share, mark):
    return added_up([multiplied(weight, excess(number, mark)) for number, weight in share])


def is_rest_less(one, other, mark):
    """Whether other has a lesser REST at the MARK than one."""
    return is_under(rest_of(other, mark), rest_of(one, mark))


def all_numbers(one, other):
    """The unlike NUMBERS of both SHARES, ascending."""
    return unlike_in_order(numbers_of(one) + numbers_of(other))


def units_of(shares):
    """By what all NUMBERS, and by what all WEIGHTS, become integers."""
    number_unit = weight_unit = 1
    for share in shares:
        for (_, bottom), (_, many) in share:
            number_unit = lcm(number_unit, bottom)
            weight_unit = lcm(weight_unit, many)
    return (number_unit, weight_unit)


def in_units(share, number_unit, weight_unit):
    """The pairs of a SHARE as pairs of integers."""
    return [(top * (number_unit // bottom), weight * (weight_unit // many))
            for (top, bottom), (weight, many) in share]


def unlike_in_units(one, other):
    """A PAPER that the TOTALS, or the MOMENTS, are unlike, None if they are alike."""
    if sum([weight for _, weight in one]) != sum([weight for _, weight in other]):
        return ("total",)
    if sum([number * weight for number, weight in one]) != sum([number * weight
                                                                for number, weight in other]):
        return ("moment",)
    return None


def least_gap(one, other):
    """The least NUMBER at which other has a lesser REST, or None."""
    slopes = {number: weight for number, weight in other}
    for number, weight in one:
        slopes[number] = slopes.get(number, 0) - weight
    mark = None
    last = gap = slope = 0
    # Both RESTS are straight between neighbouring NUMBERS, and nought from the greatest one on.
    for number in sorted(slopes, reverse=True):
        gap = gap + slope * (last - number)
        if gap < 0:
            mark = number
        slope = slope + slopes[number]
        last = number
    return mark


def unlike(one, other):
    """A PAPER that the TOTALS, or the MOMENTS, are unlike, None if they are alike."""
    number_unit, weight_unit = units_of((one, other))
    return unlike_in_units(in_units(one, number_unit, weight_unit),
                           in_units(other, number_unit, weight_unit))


def why_not_wider(one, other):
    """A PAPER that other is not WIDER than one, None if it is."""
    number_unit, weight_unit = units_of((one, other))
    near = in_units(one, number_unit, weight_unit)
    far = in_units(other, number_unit, weight_unit)
    paper = unlike_in_units(near, far)
    if paper is not None:
        return paper
    mark = least_gap(near, far)
    return None if mark is None else ("mark", made(mark, number_unit))


def need_wider(one, other):
    paper = why_not_wider(one, other)
    if paper is not None:
        raise NotWider(paper)
