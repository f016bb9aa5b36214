"""A guess which amounts head the rows of a stand with the least costs.

It is made by the same exchanges as in simplex.py, but with rounded numbers: integers
over one scale, a power of two, that stays. So it may be wrong, and only tells where the
exact reckoning begins. Where all integers are short, that needs no guess.
"""

from forehouse.simplex import free_col, next_step, opened, without_last

SHORT = 64
MOST_EXCHANGES = 400


def longest(some):
    """How many bits the longest of some integers has."""
    return max([part.bit_length() for part in some], default=0)


def shifted(part, bits):
    """An integer with so many bits more, or less."""
    return part << bits if bits >= 0 else part >> -bits


def evened(rows, bits):
    """The rows, each column with so many bits at the longest."""
    cols = [[shifted(part, bits - longest(col)) for part in col] for col in zip(*rows)]
    return [list(row) for row in zip(*cols)]


def near_opened(matrix, bounds, costs, bits):
    """The rounded stand in which each equation lacks all, with a row of costs, and of lacks."""
    rows, heads, sides, _ = opened(matrix + [costs], bounds + [0])
    rows = [[shifted(part, bits - longest(row[:-1])) for part in row] for row in rows]
    rows = evened(rows, bits)
    equations = rows[:-1]
    lacks = [-sum(col) for col in zip(*equations)]
    return (rows + [lacks], heads[:-1], sides, 1 << bits)


def near_exchanged(stand, at, col):
    """What exchanged tells, rounded; what is nearly 0 is taken as 0."""
    rows, heads, sides, scale = stand
    lead = rows[at][col]
    bits = scale.bit_length() - 1
    chief = [(part << bits) // lead for part in rows[at]]
    out = []
    for row in rows:
        factor = row[col]
        new = [part - (factor * by >> bits) for part, by in zip(row, chief)]
        new[col] = (-factor << bits) // lead
        out.append(new)
    chief[col] = scale * scale // lead
    out[at] = chief
    least = 1 << bits // 2
    out = [[part if abs(part) > least else 0 for part in row] for row in out]
    heads = list(heads)
    sides = list(sides)
    heads[at], sides[col] = sides[col], heads[at]
    return (out, heads, sides, scale)


def near_lowered(stand, many):
    """The stand in which the last row can hardly be made less."""
    stuck = False
    for _ in range(MOST_EXCHANGES):
        step = next_step(stand, many, stuck)
        if step is None:
            break
        stuck = stand[0][step[0]][-1] == 0
        stand = near_exchanged(stand, step[0], step[1])
    return stand


def near_seated(stand, many):
    """The stand in which what an equation lacks heads only rows of nothing else."""
    for at in range(len(stand[1])):
        col = free_col(stand, at, many) if stand[1][at] >= many else None
        if col is not None:
            stand = near_exchanged(stand, at, col)
    return stand


def guessed(matrix, bounds, costs):
    """The labels of the amounts that may head the rows at last; of short integers none."""
    many = len(costs)
    length = longest([part for row in matrix for part in row])
    if length <= SHORT:
        return []
    stand = near_lowered(near_opened(matrix, bounds, costs, 2 * length + SHORT), many)
    if stand[0][-1][-1] == 0:
        stand = near_lowered(near_seated(without_last(stand), many), many)
    return [head for head in stand[1] if head < many]
