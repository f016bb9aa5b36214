"""TERMS told back: from a SHARE to a WIDER one, and from a WIDER one back."""

from forehouse.cells import mean_in, worths
from forehouse.curtain import left_curtain
from forehouse.relation import need_wider
from forehouse.shares import sure_share


def states_of(pairs):
    """The TERM of a STATE for each pair of a NUMBER and a WEIGHT."""
    return ("states", tuple([(weight, number) for number, weight in pairs]))


def spread_to(term, at, parts):
    """A TERM with "spread"s of a STATE till its parts, pairs (WEIGHT, WORTH), stand there."""
    # First the least part, and all others in one STATE; then this in the same way.
    for number in range(len(parts) - 1):
        rest = parts[number + 1:]
        high = mean_in(rest, tuple(range(len(rest))), worths(rest))
        term = ("spread", term, at + number, parts[number][1], high)
    return term


def parts_to(table, near):
    """The pairs (WEIGHT, Y) of all STEPS from an X."""
    return tuple([(weight, far) for start, far, weight in table if start == near])


def parts_from(table, far):
    """The WEIGHTS of all STEPS to a Y."""
    return tuple([weight for _, end, weight in table if end == far])


def split_by(other, table):
    """The TERM with "split"s of the STATES of a SHARE into the STEPS that lead to them."""
    term = states_of(other)
    # From the last STATE on, so that the numbers of those ahead of it stay.
    for at in range(len(other) - 1, -1, -1):
        parts = parts_from(table, other[at][0])
        if len(parts) > 1:
            term = ("split", term, at, parts)
    return term


def spreads_of(one, other):
    one = sure_share(one)
    other = sure_share(other)
    need_wider(one, other)
    table = left_curtain(one, other)
    term = states_of(one)
    for at in range(len(one) - 1, -1, -1):
        term = spread_to(term, at, parts_to(table, one[at][0]))
    return term


def pools_of(one, other):
    one = sure_share(one)
    other = sure_share(other)
    need_wider(one, other)
    table = left_curtain(one, other)
    term = split_by(other, table)
    nears = [near for far, _ in other for near, end, _ in table if end == far]
    for number, _ in one:
        cell = tuple([state for state, near in enumerate(nears) if near == number])
        if len(cell) > 1:
            term = ("pooled", term, cell)
    return term
