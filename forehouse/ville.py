"""GOALS, and BETS that reach so many TIMES what they began with."""

from forehouse.bets import are_safe, capitals, sure_bets
from forehouse.errors import BadGoal, BadStakes, BadTimes
from forehouse.exact import NOUGHT, ONE, divided, is_under
from forehouse.kinds import copied, is_row, is_weight
from forehouse.prices import price_of
from forehouse.runs import is_run, numbers_to, open_runs, runs_of, sure_length, sure_told


def is_goal(length, thing):
    """Whether any thing is a GOAL."""
    if not isinstance(thing, tuple):
        return False
    if not all([is_row(run, length) and is_run(length, run) for run in thing]):
        return False
    return all([thing[at] < thing[at + 1] for at in range(len(thing) - 1)])


def sure_goal(length, thing):
    """A plain copy of a GOAL."""
    if not is_goal(length, thing):
        raise BadGoal(thing)
    return copied(thing)


def payoff_of(length, goal):
    """The PAYOFF of a GOAL."""
    return tuple([ONE if run in goal else NOUGHT for run in runs_of(length)])


def sure_staked(length, forecaster, bets, times):
    """Plain copies of a LENGTH, a FORECASTER, BETS that are SAFE from 1, and TIMES."""
    length, forecaster = sure_told(length, forecaster)
    stakes = sure_bets(length, bets)
    if not are_safe(forecaster, ONE, stakes):
        raise BadStakes(bets)
    if not is_weight(times):
        raise BadTimes(times)
    return (length, forecaster, stakes, copied(times))


def high_runs(forecaster, bets, times):
    """The numbers of all RUNS at which the CAPITAL, from 1, is no less than TIMES."""
    return [number for number, part in enumerate(capitals(forecaster, ONE, bets))
            if not is_under(part, times)]


def has_come(high, run):
    """Whether some beginning of a RUN, or itself, is numbered so."""
    return any([number in high for number in numbers_to(run)])


def goal_payoff(length, goal):
    length = sure_length(length)
    goal = sure_goal(length, goal)
    return payoff_of(length, goal)


def lever(length, forecaster, goal):
    length, forecaster = sure_told(length, forecaster)
    runs = sure_goal(length, goal)
    if not runs:
        raise BadGoal(goal)
    cost = price_of(forecaster, payoff_of(length, runs))
    return None if cost == NOUGHT else divided(ONE, cost)


def reached(length, forecaster, bets, times):
    length, forecaster, bets, times = sure_staked(length, forecaster, bets, times)
    high = high_runs(forecaster, bets, times)
    return tuple([run for run in runs_of(length) if has_come(high, run)])


def stopped(length, forecaster, bets, times):
    length, forecaster, bets, times = sure_staked(length, forecaster, bets, times)
    high = high_runs(forecaster, bets, times)
    return tuple([NOUGHT if has_come(high, run) else stake
                  for run, stake in zip(open_runs(length), bets)])
