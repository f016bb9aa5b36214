"""BOOKS and HEDGES: of what kind they are, what they ask for, pay and cost."""

from forehouse.errors import BadBook, BadHolding
from forehouse.exact import added, is_under, multiplied, taken
from forehouse.holdings import cost_by, is_holding, paid_by
from forehouse.kinds import copied, is_price, is_row, is_row_within
from forehouse.known import is_claim, is_within_a_million, mean_of_claim

MOST_QUOTES = 6


def is_bound(thing):
    return thing is None or is_within_a_million(thing)


def is_quote(known, thing):
    if not is_row(thing, 3) or not is_claim(known, thing[0]):
        return False
    _, bid, ask = thing
    if not is_bound(bid) or not is_bound(ask):
        return False
    return bid is None or ask is None or bid <= ask


def wrong_quote(known, thing):
    """The number of the first thing that is no QUOTE, or None."""
    for number, quote in enumerate(thing):
        if not is_quote(known, quote):
            return number
    return None


def sure_book(known, thing):
    """A plain copy of a BOOK on what is KNOWN."""
    if not is_row_within(thing, 0, MOST_QUOTES):
        raise BadBook(None)
    number = wrong_quote(known, thing)
    if number is not None:
        raise BadBook(number)
    return copied(thing)


def are_amounts(thing, bounds):
    """Whether it has a FRACTION from nought on for each bound, nought where that is None."""
    if not is_row(thing, len(bounds)) or not all([is_price(part) for part in thing]):
        return False
    return all([bound is not None or part[0] == 0 for part, bound in zip(thing, bounds)])


def is_hedge(known, book, thing):
    """Whether any thing is a HEDGE."""
    if not is_row(thing, 3) or not is_holding(known, thing[0]):
        return False
    return (are_amounts(thing[1], [quote[2] for quote in book])
            and are_amounts(thing[2], [quote[1] for quote in book]))


def sure_hedge(known, book, thing):
    """A plain copy of a HEDGE."""
    if not is_hedge(known, book, thing):
        raise BadHolding(thing)
    return copied(thing)


def hedge_paid(known, book, hedge):
    """What a HEDGE PAYS on all rows, in turn."""
    holding, buys, sells = hedge
    out = paid_by(known, holding)
    for (claim, _, _), bought, sold in zip(book, buys, sells):
        held = taken(bought, sold)
        out = [added(part, multiplied(held, (claimed, 1))) for part, claimed in zip(out, claim)]
    return out


def hedge_costs(known, book, hedge):
    """The COST of a HEDGE."""
    holding, buys, sells = hedge
    out = cost_by(known, holding)
    for (_, bid, ask), bought, sold in zip(book, buys, sells):
        # Where there is no BID, no ASK, nothing is sold, or bought.
        if ask is not None:
            out = added(out, multiplied(bought, (ask, 1)))
        if bid is not None:
            out = taken(out, multiplied(sold, (bid, 1)))
    return out


def is_kept(known, fair, book):
    """Whether a FAIR SHARE keeps a BOOK."""
    for claim, bid, ask in book:
        mean = mean_of_claim(known, fair, claim)
        if bid is not None and is_under(mean, (bid, 1)):
            return False
        if ask is not None and is_under((ask, 1), mean):
            return False
    return True
