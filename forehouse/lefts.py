"""CROSSINGS of TABLES, and the TABLES that have none."""

from forehouse.curtain import left_curtain, right_curtain
from forehouse.exact import is_strictly_between, is_under
from forehouse.relation import need_wider
from forehouse.shares import numbers_of, sure_share
from forehouse.tables import left_of, sure_table


def fars_of(table):
    """For each X all Y to which it has STEPS, ascending, in a dict in the order of X."""
    fars = {near: [] for near in numbers_of(left_of(table))}
    for near, far, _ in table:
        fars[near].append(far)
    return fars


def crossings_of(fars, near, later):
    """All CROSSINGS of the STEPS from one X, and those from another one."""
    return [(near, later, low, middle, high)
            for low in fars[near] for middle in fars[later] for high in fars[near]
            if is_strictly_between(low, middle, high)]


def crossings(table):
    fars = fars_of(sure_table(table))
    return tuple([crossing for near in fars for later in fars if is_under(near, later)
                  for crossing in crossings_of(fars, near, later)])


def crossings_back(table):
    fars = fars_of(sure_table(table))
    return tuple([crossing for near in fars for later in fars if is_under(later, near)
                  for crossing in crossings_of(fars, near, later)])


def left_table(one, other):
    one = sure_share(one)
    other = sure_share(other)
    need_wider(one, other)
    return left_curtain(one, other)


def right_table(one, other):
    one = sure_share(one)
    other = sure_share(other)
    need_wider(one, other)
    return right_curtain(one, other)
