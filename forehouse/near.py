"""A guess which amounts head the rows of a stand with the least costs.

It is made by the same exchanges as in simplex.py, but with rounded numbers: integers
over one scale, a power of two, that stays. So it may be wrong, and has to be proved.
"""

from forehouse.exact import NOUGHT
from forehouse.simplex import free_col, next_step, opened, without_last

MOST_EXCHANGES = 400


def shifted(part, bits):
    """An integer with so many bits more, or less."""
    return part << bits if bits >= 0 else part >> -bits


def longest(some):
    """How many bits the longest of some integers has."""
    return max([part.bit_length() for part in some], default=0)


def evened(rows, bits):
    """The rows, each column with so many bits at the longest."""
    cols = [[shifted(part, bits - longest(col)) for part in col] for col in zip(*rows)]
    return [list(row) for row in zip(*cols)]


def near_row(row, bound, bits):
    """A rounded equation with its bound, this not below 0."""
    line = [(top << bits) // bottom for top, bottom in list(row) + [bound]]
    return [-part for part in line] if line[-1] < 0 else line


def near_opened(equations, bounds, costs, bits):
    """The rounded stand in which each equation lacks all, with a row of costs, and of lacks."""
    rows = [near_row(row, bound, bits) for row, bound in zip(equations, bounds)]
    asked = [(cost, 1) for cost in costs]
    rows, heads, sides, _ = opened(rows + [near_row(asked, NOUGHT, bits)])
    rows = evened(rows, bits)
    equations = rows[:-1]
    lacks = [-sum(col) for col in zip(*equations)]
    return (rows + [lacks], heads[:-1], sides, 1 << bits)


def near_exchanged(stand, at, col):
    """What exchanged tells, rounded; what is nearly 0 is taken as 0."""
    rows, heads, sides, scale = stand
    lead = rows[at][col]
    bits = scale.bit_length() - 1
    chief = [(part << bits) // lead for part in rows[at]]
    out = []
    for row in rows:
        factor = row[col]
        new = [part - (factor * by >> bits) for part, by in zip(row, chief)]
        new[col] = (-factor << bits) // lead
        out.append(new)
    chief[col] = scale * scale // lead
    out[at] = chief
    least = 1 << bits // 2
    out = [[part if abs(part) > least else 0 for part in row] for row in out]
    heads = list(heads)
    sides = list(sides)
    heads[at], sides[col] = sides[col], heads[at]
    return (out, heads, sides, scale)


def near_lowered(stand, many):
    """The stand in which the last row can hardly be made less."""
    stuck = False
    for _ in range(MOST_EXCHANGES):
        step = next_step(stand, many, stuck)
        if step is None:
            break
        stuck = stand[0][step[0]][-1] == 0
        stand = near_exchanged(stand, step[0], step[1])
    return stand


def near_seated(stand, many):
    """The stand in which what an equation lacks heads only rows of nothing else."""
    for at in range(len(stand[1])):
        col = free_col(stand, at, many) if stand[1][at] >= many else None
        if col is not None:
            stand = near_exchanged(stand, at, col)
    return stand


def guessed(equations, bounds, costs, bits):
    """The heads that a stand with the least costs may have, and whether it may lack nothing.

    equations and bounds are FRACTIONS, costs integers.
    """
    many = len(costs)
    stand = near_lowered(near_opened(equations, bounds, costs, bits), many)
    if stand[0][-1][-1] != 0:
        return (stand[1], False)
    return (near_lowered(near_seated(without_last(stand), many), many)[1], True)
