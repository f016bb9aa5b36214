"""What PAYOFFS cost surely, against a FORECASTER."""

from forehouse.bets import are_bets, do_reach
from forehouse.errors import BadPaper
from forehouse.exact import NOUGHT, added, contrary, multiplied, taken
from forehouse.kinds import copied, is_row
from forehouse.runs import are_chances, mean_of_payoff, sure_payoff, sure_told


def higher_told(span, gap):
    """The FRACTION of a RANGE that makes most of what a 1 brings more than a 0."""
    low, high = span
    return high if gap[0] > 0 else low


def prices_of(forecaster, payoff):
    """The PRICES behind all RUNS, in their order."""
    many = len(forecaster)
    out = [NOUGHT] * many + list(payoff)
    for at in range(many - 1, -1, -1):
        gap = taken(out[2 * at + 2], out[2 * at + 1])
        out[at] = added(out[2 * at + 1], multiplied(higher_told(forecaster[at], gap), gap))
    return out


def gaps_of(prices, many):
    """For each RUN that is not whole what the PRICE behind it with 1 is more than with 0."""
    return tuple([taken(prices[2 * at + 2], prices[2 * at + 1]) for at in range(many)])


def paper_of(forecaster, payoff):
    """The PAPER on the PRICE."""
    bets = gaps_of(prices_of(forecaster, payoff), len(forecaster))
    return (bets, tuple([higher_told(span, gap) for span, gap in zip(forecaster, bets)]))


def price_of(forecaster, payoff):
    return prices_of(forecaster, payoff)[0]


def sure_sold(length, forecaster, payoff):
    """Plain copies of a LENGTH, a FORECASTER and a PAYOFF."""
    length, forecaster = sure_told(length, forecaster)
    return (length, forecaster, sure_payoff(length, payoff))


def price(length, forecaster, payoff):
    length, forecaster, payoff = sure_sold(length, forecaster, payoff)
    return price_of(forecaster, payoff)


def sale(length, forecaster, payoff):
    length, forecaster, payoff = sure_sold(length, forecaster, payoff)
    return contrary(price_of(forecaster, [contrary(part) for part in payoff]))


def prices_behind(length, forecaster, payoff):
    length, forecaster, payoff = sure_sold(length, forecaster, payoff)
    return tuple(prices_of(forecaster, payoff)[:len(forecaster)])


def price_paper(length, forecaster, payoff):
    length, forecaster, payoff = sure_sold(length, forecaster, payoff)
    return paper_of(forecaster, payoff)


def check_price(length, forecaster, payoff, paper):
    length, forecaster, payoff = sure_sold(length, forecaster, payoff)
    if not is_row(paper, 2):
        raise BadPaper("form")
    if not are_bets(length, paper[0]):
        raise BadPaper("bets")
    if not are_chances(forecaster, paper[1]):
        raise BadPaper("chances")
    bets, chances = copied(paper)
    mean = mean_of_payoff(chances, payoff)
    if not do_reach(forecaster, mean, bets, payoff):
        raise BadPaper("bring")
    return mean
