"""STAKES on a SHARE, and what they surely TAKE, whatever comes with what."""

from forehouse.errors import BadPaper, BadShare, BadStakes, BadTable
from forehouse.exact import NOUGHT, ONE, added, added_up, in_order, is_under, lesser, multiplied
from forehouse.exact import summed_products, taken
from forehouse.kinds import are_fractions, copied, is_row
from forehouse.market import LESS_ONE, same_for, sold_above
from forehouse.relation import why_not_wider
from forehouse.shares import moment_of, numbers_of, sure_share, total_of, weights_of
from forehouse.tables import left_of, right_of, steps_in, table_from


def sure_alike(one, other):
    """Plain copies of two SHARES with like TOTALS."""
    near = sure_share(one)
    far = sure_share(other)
    if total_of(near) != total_of(far):
        raise BadShare(other)
    return (near, far)


def does_join(one, other, thing):
    """Whether any thing is a JOINT of two SHARES."""
    joint = steps_in(thing)
    if joint is None:
        return False
    return left_of(joint) == one and right_of(joint) == other


def sure_staked(one, other, stakes):
    """Plain copies of two SHARES with like TOTALS, and of STAKES on the first one."""
    one, other = sure_alike(one, other)
    if not are_fractions(stakes, len(one)):
        raise BadStakes(stakes)
    return (one, other, copied(stakes))


def taken_by(one, stakes, joint):
    """The TAKE of STAKES by a JOINT."""
    staked = {number: stake for number, stake in zip(numbers_of(one), stakes)}
    return added_up([multiplied(weight, multiplied(staked[near], taken(far, near)))
                     for near, far, weight in joint])


def by_stakes(one, stakes):
    """A triple (stake, NUMBER, WEIGHT) for each pair of a SHARE, the greatest stake first."""
    rows = [(stake, number, weight) for (number, weight), stake in zip(one, stakes)]
    levels = in_order(list({stake: True for stake in stakes}))[::-1]
    return [row for level in levels for row in rows if row[0] == level]


def least_joint(one, other, stakes):
    """The JOINT with the LEAST TAKE, and the stake at which each NUMBER of other ends.

    What comes with a greater stake is no greater: if two changed places, they would take more.
    """
    rows = by_stakes(one, stakes)
    stake, near, left = rows[0]
    weights = {}
    ends = []
    for far, room in other:
        while room != NOUGHT:
            if left == NOUGHT:
                rows = rows[1:]
                stake, near, left = rows[0]
            part = lesser(left, room)
            weights[(near, far)] = part
            left = taken(left, part)
            room = taken(room, part)
        ends.append(stake)
    return (table_from(weights), ends)


def far_prices(other, ends):
    """B of the PAPER: it grows from NUMBER to NUMBER as the stake between them takes more."""
    prices = [NOUGHT]
    for at in range(len(other) - 1):
        gap = taken(other[at + 1][0], other[at][0])
        prices.append(added(prices[at], multiplied(ends[at], gap)))
    return tuple(prices)


def near_price(number, stake, other, prices):
    """A of the PAPER at a NUMBER: as much as B leaves there."""
    spare = [taken(multiplied(stake, taken(far, number)), price)
             for far, price in zip(numbers_of(other), prices)]
    return in_order(spare)[0]


def paper_of(one, other, stakes):
    """The PAPER on the LEAST TAKE."""
    joint, ends = least_joint(one, other, stakes)
    prices = far_prices(other, ends)
    nears = tuple([near_price(number, stake, other, prices)
                   for number, stake in zip(numbers_of(one), stakes)])
    return (joint, nears, prices)


def is_joint(one, other, value):
    one, other = sure_alike(one, other)
    return does_join(one, other, value)


def take_by(one, other, stakes, joint):
    one, other, stakes = sure_staked(one, other, stakes)
    if not does_join(one, other, joint):
        raise BadTable(joint)
    return taken_by(one, stakes, copied(joint))


def least_take(one, other, stakes):
    one, other, stakes = sure_staked(one, other, stakes)
    return taken_by(one, stakes, least_joint(one, other, stakes)[0])


def take_paper(one, other, stakes):
    one, other, stakes = sure_staked(one, other, stakes)
    return paper_of(one, other, stakes)


def do_bound(one, other, stakes, nears, fars):
    """Whether A and B are nowhere together more than what the stake there takes."""
    for (number, _), stake, price in zip(one, stakes, nears):
        for (far, _), more in zip(other, fars):
            if is_under(multiplied(stake, taken(far, number)), added(price, more)):
                return False
    return True


def check_take(one, other, stakes, paper):
    one, other, stakes = sure_staked(one, other, stakes)
    if not is_row(paper, 3):
        raise BadPaper("form")
    if not does_join(one, other, paper[0]):
        raise BadPaper("joint")
    if not are_fractions(paper[1], len(one)) or not are_fractions(paper[2], len(other)):
        raise BadPaper("prices")
    joint, nears, fars = copied(paper)
    if not do_bound(one, other, stakes, nears, fars):
        raise BadPaper("bound")
    take = taken_by(one, stakes, joint)
    paid = added(summed_products(weights_of(one), nears), summed_products(weights_of(other), fars))
    if paid != take:
        raise BadPaper("sum")
    return take


def stakes_by(one, other):
    one, other = sure_alike(one, other)
    paper = why_not_wider(one, other)
    if paper is None:
        return None
    if paper[0] == "mark":
        return sold_above(one, paper[1])
    # The TOTALS are alike: so the MOMENTS are not.
    return same_for(one, ONE if is_under(moment_of(one), moment_of(other)) else LESS_ONE)
