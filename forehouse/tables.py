"""TABLES: fair STEPS from one SHARE to another one."""

from forehouse.errors import BadTable
from forehouse.exact import NOUGHT, added, divided, is_under, multiplied, taken, unlike_in_order
from forehouse.kinds import copied, is_fraction, is_row, is_row_within, is_weight
from forehouse.shares import MOST_PAIRS, pairs_in_order, sure_share

MOST_STEPS = 36


def is_step(thing):
    if not is_row(thing, 3):
        return False
    return is_fraction(thing[0]) and is_fraction(thing[1]) and is_weight(thing[2])


def is_ahead(step, later):
    """Whether a STEP has a lesser X, or the same one and a lesser Y."""
    if step[0] == later[0]:
        return is_under(step[1], later[1])
    return is_under(step[0], later[0])


def is_fair(steps):
    """Whether those of each X are on the mean where they begin."""
    drifts = {}
    for near, far, weight in steps:
        drift = multiplied(weight, taken(far, near))
        drifts[near] = added(drifts.get(near, NOUGHT), drift)
    return all([drifts[near] == NOUGHT for near in drifts])


def are_steps(thing):
    """Whether it is an ascending tuple of STEPS, no two with the same X and Y."""
    if not is_row_within(thing, 1, MOST_STEPS) or not all([is_step(step) for step in thing]):
        return False
    steps = copied(thing)
    return all([is_ahead(steps[at], steps[at + 1]) for at in range(len(steps) - 1)])


def is_table(thing):
    if not are_steps(thing):
        return False
    steps = copied(thing)
    if len({step[0]: True for step in steps}) > MOST_PAIRS:
        return False
    return len({step[1]: True for step in steps}) <= MOST_PAIRS and is_fair(steps)


def sure_table(thing):
    if not is_table(thing):
        raise BadTable(thing)
    return copied(thing)


def need_table(thing):
    sure_table(thing)
    return thing


def left_of(table):
    return pairs_in_order([(step[0], step[2]) for step in table])


def right_of(table):
    return pairs_in_order([(step[1], step[2]) for step in table])


def is_between(one, other, thing):
    """Whether any thing is a TABLE from one SHARE to another one."""
    if not is_table(thing):
        return False
    table = copied(thing)
    return left_of(table) == one and right_of(table) == other


def table_from(weights):
    """The TABLE with these WEIGHTS, in a dict, for pairs of X and Y."""
    rows = unlike_in_order([near for near, _ in weights])
    cols = unlike_in_order([far for _, far in weights])
    return tuple([(near, far, weights[(near, far)]) for near in rows for far in cols
                  if (near, far) in weights])


def left_share(table):
    return left_of(sure_table(table))


def right_share(table):
    return right_of(sure_table(table))


def goes_between(one, other, value):
    one = sure_share(one)
    other = sure_share(other)
    return is_between(one, other, value)


def behind(table, later):
    first = sure_table(table)
    second = sure_table(later)
    if left_of(second) != right_of(first):
        raise BadTable(later)
    parts = {number: weight for number, weight in left_of(second)}
    weights = {}
    for near, middle, weight in first:
        for start, far, onward in second:
            if start == middle:
                part = divided(multiplied(weight, onward), parts[middle])
                weights[(near, far)] = added(weights.get((near, far), NOUGHT), part)
    return table_from(weights)
