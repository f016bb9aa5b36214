"""TABLES with the LEAST and the GREATEST VALUE, and the prices that show it."""

from forehouse.exact import contrary
from forehouse.fairlines import dealt_by, fair_task, fair_with, held_by
from forehouse.tables import table_from


def least_four(one, other, reward):
    """TABLE, U, V and H of the PAPER on the LEAST VALUE, other being WIDER than one."""
    shares = (one, other)
    task = fair_task(shares, [], [], 0)
    amounts, prices = task.least([paid for row in reward for paid in row])
    near, far = held_by(shares, prices)
    steps = {path: weight for path, weight in fair_with(shares, amounts)}
    return (table_from(steps), near, far, dealt_by(shares, prices))


def greatest_four(one, other, reward):
    """Likewise of the GREATEST VALUE."""
    contraries = tuple([tuple([-paid for paid in row]) for row in reward])
    table, *prices = least_four(one, other, contraries)
    near, far, drift = [tuple([contrary(part) for part in some]) for some in prices]
    return (table, near, far, drift)
