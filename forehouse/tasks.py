"""Amounts from nought on that keep equations of FRACTIONS, and cost as little as can be."""

from math import gcd, lcm

from forehouse.exact import made, multiplied
from forehouse.near import guessed
from forehouse.proofs import shown_least, shown_none
from forehouse.simplex import least_sum

# More bits than these make a guess worth its while.
LONG = 64

# With how many bits it is guessed.
ALL_BITS = (640, 2560)


def common_bottom(some):
    bottom = 1
    for one in some:
        bottom = lcm(bottom, one[1])
    return bottom


def common_top(some):
    top = 0
    for one in some:
        top = gcd(top, one[0])
    return top


def raised(some, bottom):
    """The integers that FRACTIONS are, so many times."""
    return [top * (bottom // own) for top, own in some]


def whole_row(row, units, bound):
    """A row, each part in its unit, as integers without a common divisor, and by what it is so.

    Its bound, multiplied by the same, is not below nought.
    """
    sign = -1 if bound[0] < 0 else 1
    bottom = common_bottom(row)
    parts = [top * unit * (bottom // own) for (top, own), unit in zip(row, units)]
    shared = 0
    for part in parts:
        shared = gcd(shared, part)
    if shared == 0:
        # Where there is nothing but nought, any factor will do.
        return (parts, (sign, 1))
    shared = sign * shared
    return ([part // shared for part in parts], made(bottom, shared))


def lacks_of(factors):
    """What it costs to lack, in integers, if that costs the same in all equations as they were."""
    shares = [(bottom, abs(top)) for top, bottom in factors]
    return raised(shares, common_bottom(shares))


def are_long(matrix):
    """Whether some integer is so long that a guess is worth its while."""
    return any([part.bit_length() > LONG for row in matrix for part in row])


class Task:
    """Equations, a tuple of FRACTIONS each, with a bound for each.

    units has an integer above 0 for each amount: it is reckoned in this unit, which
    keeps the integers of the equations small.
    """

    def __init__(self, equations, bounds, units):
        self.units = units
        self.equations = equations
        self.own_bounds = bounds
        rows = [whole_row(row, units, bound) for row, bound in zip(equations, bounds)]
        self.factors = [factor for _, factor in rows]
        bounds = [multiplied(bound, factor) for bound, factor in zip(bounds, self.factors)]
        self.bottom = common_bottom(bounds)
        self.matrix = [parts for parts, _ in rows]
        self.bounds = raised(bounds, self.bottom)

    def proved(self, costs, dear):
        """What least_sum tells, of costs in the units, if a guess is right; else None."""
        if not are_long(self.matrix):
            return None
        for bits in ALL_BITS:
            heads, can_be = guessed(self.equations, self.own_bounds, costs, bits)
            if can_be:
                told = shown_least(self.matrix, self.bounds, dear, heads)
            else:
                told = shown_none(self.matrix, self.bounds, lacks_of(self.factors), heads)
            if told is not None:
                return told
        return None

    def least(self, costs):
        """The amounts above nought with the least costs, in a dict, and the prices.

        costs are integers. For each amount the prices, times what it has there, are
        together no more than what it costs; times the bounds they are the least costs.
        If no amounts keep the equations, the first is None, and the prices are,
        likewise, together not above nought, but times the bounds above nought.
        """
        dear = [cost * unit for cost, unit in zip(costs, self.units)]
        told = self.proved(costs, dear)
        if told is None:
            told = least_sum(self.matrix, self.bounds, dear)
        amounts, prices = told
        prices = [multiplied(price, factor) for price, factor in zip(prices, self.factors)]
        if amounts is None:
            return (None, prices)
        units = {at: made(self.units[at], self.bottom) for at in amounts}
        return ({at: multiplied(amounts[at], units[at]) for at in amounts}, prices)
