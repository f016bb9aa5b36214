"""TABLES with the LEAST and the GREATEST VALUE, and the prices that show it."""

from math import lcm

from forehouse.curtain import left_curtain
from forehouse.exact import contrary, made, multiplied
from forehouse.shares import numbers_of, weights_of
from forehouse.simplex import least_sum
from forehouse.tables import table_by


def common_bottom(some):
    bottom = 1
    for one in some:
        bottom = lcm(bottom, one[1])
    return bottom


def raised(some, bottom):
    """The integers that FRACTIONS are, so many times."""
    return [top * (bottom // own) for top, own in some]


def equations(nears, fars):
    """The rows of a TABLE from nears to fars: of each X, of each Y, and what is fair of X."""
    pairs = [(at, to) for at in range(len(nears)) for to in range(len(fars))]
    rows = [[1 if at == own else 0 for at, _ in pairs] for own in range(len(nears))]
    rows = rows + [[1 if to == own else 0 for _, to in pairs] for own in range(len(fars))]
    for own in range(len(nears)):
        rows.append([fars[to] - nears[at] if at == own else 0 for at, to in pairs])
    return rows


def places_of(table, one, other):
    """For each STEP the number of its pair of X and Y."""
    nears = {near: at for at, near in enumerate(numbers_of(one))}
    fars = {far: at for at, far in enumerate(numbers_of(other))}
    return [nears[near] * len(fars) + fars[far] for near, far, _ in table]


def least_four(one, other, reward):
    """TABLE, U, V and H of the PAPER on the LEAST VALUE, other being WIDER than one."""
    bottom = common_bottom(numbers_of(one) + numbers_of(other))
    nears = raised(numbers_of(one), bottom)
    fars = raised(numbers_of(other), bottom)
    weights = weights_of(one) + weights_of(other)
    share = common_bottom(weights)
    bounds = raised(weights, share) + [0] * len(one)
    costs = [paid for row in reward for paid in row]
    # The LEFT TABLE is the only one with no other STEPS than its own.
    start = places_of(left_curtain(one, other), one, other)
    amounts, prices = least_sum(equations(nears, fars), bounds, costs, start)
    steps = {}
    for at, amount in amounts.items():
        near = one[at // len(other)][0]
        far = other[at - at // len(other) * len(other)][0]
        steps[(near, far)] = multiplied(amount, made(1, share))
    drifts = prices[len(one) + len(other):]
    return (table_by(steps), tuple(prices[:len(one)]), tuple(prices[len(one):len(weights)]),
            tuple([multiplied(drift, (bottom, 1)) for drift in drifts]))


def greatest_four(one, other, reward):
    """Likewise of the GREATEST VALUE."""
    contraries = tuple([tuple([-paid for paid in row]) for row in reward])
    table, *prices = least_four(one, other, contraries)
    near, far, drift = [tuple([contrary(part) for part in some]) for some in prices]
    return (table, near, far, drift)
