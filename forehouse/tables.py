"""TABLES: fair STEPS from one SHARE to another one."""

from forehouse.errors import BadTable
from forehouse.exact import NOUGHT, added, divided, is_under, multiplied, taken, unlike_in_order
from forehouse.kinds import copied, is_fraction, is_row, is_row_within, is_weight
from forehouse.shares import MOST_PAIRS, pairs_in_order, sure_share

MOST_STEPS = 36


def is_step(thing):
    if not is_row(thing, 3):
        return False
    return is_fraction(thing[0]) and is_fraction(thing[1]) and is_weight(thing[2])


def is_ahead(step, later):
    """Whether a STEP has a lesser X, or the same one and a lesser Y."""
    if step[0] == later[0]:
        return is_under(step[1], later[1])
    return is_under(step[0], later[0])


def is_fair(steps):
    """Whether those of each X are on the mean where they begin."""
    drifts = {}
    for near, far, weight in steps:
        drift = multiplied(weight, taken(far, near))
        drifts[near] = added(drifts.get(near, NOUGHT), drift)
    return all([drifts[near] == NOUGHT for near in drifts])


def steps_in(thing):
    """A plain copy of an ascending tuple of unlike STEPS, or None of any other thing."""
    if not is_row_within(thing, 1, MOST_STEPS) or not all([is_step(step) for step in thing]):
        return None
    steps = copied(thing)
    ascend = all([is_ahead(step, later) for step, later in zip(steps, steps[1:])])
    return steps if ascend else None


def table_in(thing):
    """A plain copy of a TABLE, or None of any other thing."""
    steps = steps_in(thing)
    if steps is None or len({step[0]: True for step in steps}) > MOST_PAIRS:
        return None
    few = len({step[1]: True for step in steps}) <= MOST_PAIRS
    return steps if few and is_fair(steps) else None


def sure_table(thing):
    table = table_in(thing)
    if table is None:
        raise BadTable(thing)
    return table


def need_table(thing):
    sure_table(thing)
    return thing


def left_of(table):
    return pairs_in_order([(step[0], step[2]) for step in table])


def right_of(table):
    return pairs_in_order([(step[1], step[2]) for step in table])


def is_between(one, other, thing):
    """Whether any thing is a TABLE from one SHARE to another one."""
    table = table_in(thing)
    if table is None:
        return False
    return left_of(table) == one and right_of(table) == other


def table_from(weights):
    """The TABLE with these WEIGHTS, in a dict, for pairs of X and Y."""
    rows = unlike_in_order([near for near, _ in weights])
    cols = unlike_in_order([far for _, far in weights])
    return tuple([(near, far, weights[(near, far)]) for near in rows for far in cols
                  if (near, far) in weights])


def left_share(table):
    return left_of(sure_table(table))


def right_share(table):
    return right_of(sure_table(table))


def goes_between(one, other, value):
    one = sure_share(one)
    other = sure_share(other)
    return is_between(one, other, value)


def behind(table, later):
    first = sure_table(table)
    second = sure_table(later)
    if left_of(second) != right_of(first):
        raise BadTable(later)
    parts = {number: weight for number, weight in left_of(second)}
    weights = {}
    for near, middle, weight in first:
        for start, far, onward in second:
            if start == middle:
                part = divided(multiplied(weight, onward), parts[middle])
                weights[(near, far)] = added(weights.get((near, far), NOUGHT), part)
    return table_from(weights)
