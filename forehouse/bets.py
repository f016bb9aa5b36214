"""BETS against a FORECASTER, and the CAPITAL that they lead to."""

from forehouse.errors import BadParts, BadStakes
from forehouse.exact import NOUGHT, ONE, added, is_under, multiplied, taken
from forehouse.kinds import are_fractions, copied, is_price
from forehouse.ratios import sure_fraction
from forehouse.runs import many_open, number_of, sure_length, sure_payoff, sure_run, sure_told


def are_bets(length, thing):
    """Whether any thing is BETS."""
    return are_fractions(thing, many_open(length))


def sure_bets(length, thing):
    """A plain copy of BETS."""
    if not are_bets(length, thing):
        raise BadStakes(thing)
    return copied(thing)


def capitals(forecaster, start, bets):
    """The CAPITAL at all RUNS, in their order."""
    out = [start]
    for at, (stake, (low, high)) in enumerate(zip(bets, forecaster)):
        told = high if is_under(NOUGHT, stake) else low
        out.append(taken(out[at], multiplied(stake, told)))
        out.append(added(out[at], multiplied(stake, taken(ONE, told))))
    return out


def are_safe(forecaster, start, bets):
    """Whether BETS are SAFE from START."""
    return not any([is_under(part, NOUGHT) for part in capitals(forecaster, start, bets)])


def do_reach(forecaster, start, bets, payoff):
    """Whether BETS bring a PAYOFF from START."""
    ends = capitals(forecaster, start, bets)[len(bets):]
    return not any([is_under(end, part) for end, part in zip(ends, payoff)])


def sure_begun(length, forecaster, start, bets):
    """Plain copies of a LENGTH, a FORECASTER, a START and BETS."""
    length, forecaster = sure_told(length, forecaster)
    start = sure_fraction(start)
    return (length, forecaster, start, sure_bets(length, bets))


def capital(length, forecaster, start, bets, run):
    length, forecaster, start, bets = sure_begun(length, forecaster, start, bets)
    run = sure_run(length, run)
    return capitals(forecaster, start, bets)[number_of(run)]


def is_safe(length, forecaster, start, bets):
    length, forecaster, start, bets = sure_begun(length, forecaster, start, bets)
    return are_safe(forecaster, start, bets)


def do_bring(length, forecaster, start, bets, payoff):
    length, forecaster, start, bets = sure_begun(length, forecaster, start, bets)
    payoff = sure_payoff(length, payoff)
    return do_reach(forecaster, start, bets, payoff)


def sure_part(thing):
    """A plain copy of a PART."""
    if not is_price(thing) or thing[0] > thing[1]:
        raise BadParts(thing)
    return copied(thing)


def times_all(bets, factor):
    return [multiplied(stake, factor) for stake in bets]


def mix(length, bets, others, part):
    length = sure_length(length)
    bets = sure_bets(length, bets)
    others = sure_bets(length, others)
    part = sure_part(part)
    rest = times_all(others, taken(ONE, part))
    return tuple([added(one, other) for one, other in zip(times_all(bets, part), rest)])


def scaled(length, bets, factor):
    length = sure_length(length)
    bets = sure_bets(length, bets)
    factor = sure_fraction(factor)
    return tuple(times_all(bets, factor))
