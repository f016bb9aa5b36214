"""The FAIR SHARES with the LEAST and the GREATEST MEAN under a BOOK, and the prices of that.

A HEDGE has the prices of the equations that FAIR SHARES keep, the other way about: of
pairs of SHARES, of beginnings, and of each BID and ASK that is there.
"""

from forehouse.exact import NOUGHT, contrary, multiplied
from forehouse.fairlines import dealt_by, fair_task, fair_with, held_by, rows_by
from forehouse.shares import total_of


def sides_of(book):
    """For each BID and each ASK that is there: the CLAIM, the bound, and 1 for ASKS, -1 for BIDS."""
    out = []
    for claim, bid, ask in book:
        if bid is not None:
            out.append((claim, bid, -1))
        if ask is not None:
            out.append((claim, ask, 1))
    return out


def task_of(known, book):
    """The Task of FAIR SHARES that keep a BOOK."""
    sides = sides_of(book)
    lines = []
    for number, (claim, _, sign) in enumerate(sides):
        # What is left up to an ASK, or is there beyond a BID, is an amount of its own.
        spare = [(sign, 1) if own == number else NOUGHT for own in range(len(sides))]
        lines.append([(part, 1) for part in claim] + spare)
    bounds = [multiplied(total_of(known[0]), (bound, 1)) for _, bound, _ in sides]
    return fair_task(known, lines, bounds, len(sides))


def hedge_from(known, book, prices):
    """The HEDGE of prices."""
    prices = [contrary(price) for price in prices]
    holding = (held_by(known, prices), dealt_by(known, prices))
    own = prices[len(prices) - len(sides_of(book)):]
    buys = []
    sells = []
    for _, bid, ask in book:
        sells.append(NOUGHT if bid is None else contrary(own.pop(0)))
        buys.append(NOUGHT if ask is None else own.pop(0))
    return (holding, tuple(buys), tuple(sells))


def greatest_pair(known, book, claim):
    """A FAIR SHARE with the GREATEST MEAN of a CLAIM under a BOOK, and a HEDGE that shows it.

    If no FAIR SHARE keeps the BOOK, the first is None, and the HEDGE shows this.
    """
    costs = [-part for part in claim] + [0] * len(sides_of(book))
    amounts, prices = task_of(known, book).least(costs)
    fair = None if amounts is None else fair_with(known, amounts)
    return (fair, hedge_from(known, book, prices))


def reached_by(known):
    """For each row whether some FAIR SHARE has it."""
    task = task_of(known, ())
    reached = [False for _ in rows_by(known)]
    while True:
        # As much as can be of all other rows together: nought only if none is reached.
        amounts = task.least([0 if done else -1 for done in reached])[0]
        fresh = [at for at in amounts if not reached[at]]
        if not fresh:
            return reached
        for at in fresh:
            reached[at] = True
