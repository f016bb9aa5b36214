"""Amounts from nought on that keep equations of FRACTIONS, and cost as little as can be."""

from math import gcd, lcm

from forehouse.exact import NOUGHT, divided, is_under, made, multiplied
from forehouse.near import guessed
from forehouse.simplex import amounts_of, begun, lack_costs, lowered, prices_of


def common_bottom(some):
    bottom = 1
    for one in some:
        bottom = lcm(bottom, one[1])
    return bottom


def common_top(some):
    top = 0
    for one in some:
        top = gcd(top, one[0])
    return top


def raised(some, bottom):
    """The integers that FRACTIONS are, so many times."""
    return [top * (bottom // own) for top, own in some]


def factor_of(row, bound):
    """By what a row becomes integers without a common divisor, its bound not below nought."""
    # Where there is nothing but nought, any will do.
    factor = divided((common_bottom(row), 1), (max(common_top(row), 1), 1))
    return (-factor[0], factor[1]) if is_under(bound, NOUGHT) else factor


class Task:
    """Equations, a tuple of FRACTIONS each, with a bound for each.

    units has an integer above 0 for each amount: it is reckoned in this unit, which
    keeps the integers of the equations small.
    """

    def __init__(self, equations, bounds, units):
        self.units = units
        rows = [[multiplied(part, (unit, 1)) for part, unit in zip(row, units)]
                for row in equations]
        self.factors = [factor_of(row, bound) for row, bound in zip(rows, bounds)]
        bounds = [multiplied(bound, factor) for bound, factor in zip(bounds, self.factors)]
        self.bottom = common_bottom(bounds)
        self.matrix = [raised([multiplied(part, factor) for part in row], 1)
                       for row, factor in zip(rows, self.factors)]
        self.bounds = raised(bounds, self.bottom)
        self.stand = None
        self.can_be = False

    def prices(self, costs):
        prices = prices_of(self.stand, costs, len(self.units))
        return [multiplied(price, factor) for price, factor in zip(prices, self.factors)]

    def amounts(self):
        """The amounts above nought, in a dict."""
        amounts = amounts_of(self.stand, len(self.units))
        return {at: multiplied(amounts[at], made(self.units[at], self.bottom)) for at in amounts}

    def begin(self, costs):
        """Makes a stand that lacks nothing, if that can be; tells whether it can.

        The stand may be near the one with the least costs.
        """
        labels = guessed(self.matrix, self.bounds, costs)
        # Without a guess an earlier stand is as good as a new one.
        if labels or self.stand is None:
            self.stand, self.can_be = begun(self.matrix, self.bounds, labels)
        return self.can_be

    def some_amounts(self):
        """Amounts from nought on, in a dict, None if there are none."""
        return self.amounts() if self.begin([0] * len(self.units)) else None

    def least(self, costs):
        """The amounts above nought with the least costs, in a dict, and the prices, or None.

        costs are integers. For each amount the prices, times what it has there, are
        together no more than what it costs; times the bounds they are the least costs.
        """
        costs = [cost * unit for cost, unit in zip(costs, self.units)]
        if not self.begin(costs):
            return None
        costs = costs + [0] * len(self.factors)
        self.stand = lowered(self.stand, costs, len(self.units))[0]
        return (self.amounts(), self.prices(costs))

    def why_not(self):
        """Prices of equations that cannot be kept, when this has come out.

        For each amount they are together, times what it has there, not above nought; but
        their sum times the bounds is.
        """
        return self.prices(lack_costs(len(self.units), len(self.factors)))
