"""RUNS of outcomes, FORECASTERS, and CHANCES.

RUNS are numbered in their order, whole ones behind the others: so behind the RUN
numbered K stand those numbered 2 K + 1, with 0, and 2 K + 2, with 1.
"""

from forehouse.errors import BadChances, BadForecaster, BadNumber, BadPayoff, BadRun
from forehouse.exact import ONE, is_under, multiplied, summed_products, taken
from forehouse.kinds import are_fractions, copied, is_integer, is_place, is_price, is_row
from forehouse.kinds import is_row_within

LONGEST = 5


def sure_length(thing):
    """A plain copy of a LENGTH."""
    if not is_integer(thing) or not 1 <= thing <= LONGEST:
        raise BadNumber(thing)
    return copied(thing)


def many_open(length):
    """How many RUNS are not whole."""
    return (1 << length) - 1


def runs_of(many):
    """All RUNS of so many outcomes, in order."""
    rows = [()]
    for _ in range(many):
        rows = [row + (outcome,) for row in rows for outcome in (0, 1)]
    return rows


def open_runs(length):
    """All RUNS that are not whole, in order."""
    return [run for many in range(length) for run in runs_of(many)]


def is_run(length, thing):
    """Whether any thing is a RUN of so many days at most."""
    return is_row_within(thing, 0, length) and all([is_place(outcome, 2) for outcome in thing])


def sure_run(length, thing):
    """A plain copy of a RUN."""
    if not is_run(length, thing):
        raise BadRun(thing)
    return copied(thing)


def numbers_to(run):
    """The numbers of all beginnings of a RUN, its own last."""
    numbers = [0]
    for outcome in run:
        numbers.append(2 * numbers[-1] + 1 + outcome)
    return numbers


def number_of(run):
    return numbers_to(run)[-1]


def is_range(thing):
    if not are_fractions(thing, 2):
        return False
    low, high = thing
    return is_price(low) and not is_under(high, low) and not is_under(ONE, high)


def is_forecaster(length, thing):
    """Whether any thing is a FORECASTER of so many days."""
    return is_row(thing, many_open(length)) and all([is_range(part) for part in thing])


def sure_forecaster(length, thing):
    """A plain copy of a FORECASTER."""
    if not is_forecaster(length, thing):
        raise BadForecaster(thing)
    return copied(thing)


def are_exact(forecaster):
    return all([low == high for low, high in forecaster])


def are_mild(forecaster):
    return are_exact(forecaster) and all([0 < low[0] < low[1] for low, _ in forecaster])


def are_chances(forecaster, thing):
    """Whether any thing is CHANCES of a FORECASTER."""
    if not are_fractions(thing, len(forecaster)):
        return False
    return not any([is_under(part, low) or is_under(high, part)
                    for part, (low, high) in zip(thing, forecaster)])


def sure_chances(forecaster, thing):
    """A plain copy of CHANCES."""
    if not are_chances(forecaster, thing):
        raise BadChances(thing)
    return copied(thing)


def is_payoff(length, thing):
    """Whether any thing is a PAYOFF."""
    return are_fractions(thing, 1 << length)


def sure_payoff(length, thing):
    """A plain copy of a PAYOFF."""
    if not is_payoff(length, thing):
        raise BadPayoff(thing)
    return copied(thing)


def all_chances(chances):
    """The CHANCES of all RUNS, in their order."""
    out = [ONE]
    for at, part in enumerate(chances):
        out.append(multiplied(out[at], taken(ONE, part)))
        out.append(multiplied(out[at], part))
    return out


def mean_of_payoff(chances, payoff):
    """The MEAN of a PAYOFF by CHANCES."""
    return summed_products(all_chances(chances)[len(chances):], payoff)


def sure_told(length, forecaster):
    """Plain copies of a LENGTH and of a FORECASTER."""
    length = sure_length(length)
    return (length, sure_forecaster(length, forecaster))


def runs(length):
    return tuple(open_runs(sure_length(length)))


def whole_runs(length):
    return tuple(runs_of(sure_length(length)))


def need_forecaster(length, thing):
    sure_told(length, thing)
    return thing


def is_exact(length, forecaster):
    return are_exact(sure_told(length, forecaster)[1])


def is_mild(length, forecaster):
    return are_mild(sure_told(length, forecaster)[1])


def chance(length, forecaster, chances, run):
    length, forecaster = sure_told(length, forecaster)
    chances = sure_chances(forecaster, chances)
    run = sure_run(length, run)
    return all_chances(chances)[number_of(run)]


def mean_by(length, forecaster, chances, payoff):
    length, forecaster = sure_told(length, forecaster)
    chances = sure_chances(forecaster, chances)
    payoff = sure_payoff(length, payoff)
    return mean_of_payoff(chances, payoff)
