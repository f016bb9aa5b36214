"""The equations that FAIR SHARES keep whose days have certain SHARES."""

from forehouse.exact import NOUGHT, ONE, taken
from forehouse.tasks import Task, common_top


def rows_by(shares):
    """All rows of one NUMBER of each SHARE, ascending."""
    rows = [()]
    for share in shares:
        rows = [row + (number,) for row in rows for number, _ in share]
    return rows


def beginnings_of(rows):
    """All that some of these rows begins with, but neither () nor a whole row, in order."""
    return list({row[:many]: True for row in rows for many in range(1, len(row))})


def beginnings_by(shares):
    return beginnings_of(rows_by(shares))


def share_lines(shares, rows):
    """For each pair of each SHARE: at which rows its NUMBER stands."""
    return [[ONE if row[day] == number else NOUGHT for row in rows]
            for day, share in enumerate(shares) for number, _ in share]


def drift_line(rows, beginning):
    """What the next NUMBER is more behind a beginning."""
    many = len(beginning)
    return [taken(row[many], row[many - 1]) if row[:many] == beginning else NOUGHT for row in rows]


def units_of(rows):
    """For each row an integer that what stands in the equations is to be multiplied by."""
    units = []
    for row in rows:
        unit = 1
        for number in row[1:]:
            unit = unit * number[1]
        units.append((unit, 1))
    shared = common_top(units)
    return [unit // shared for unit, _ in units]


def fair_task(shares, lines, bounds, more):
    """The Task of these SHARES, and of more lines with bounds.

    more is how many more amounts those have, behind the rows.
    """
    rows = rows_by(shares)
    beginnings = beginnings_of(rows)
    fair_lines = [drift_line(rows, beginning) for beginning in beginnings]
    spare = [NOUGHT] * more
    own = [line + spare for line in share_lines(shares, rows) + fair_lines]
    own_bounds = [weight for share in shares for _, weight in share]
    own_bounds = own_bounds + [NOUGHT] * len(beginnings)
    return Task(own + lines, own_bounds + bounds, units_of(rows) + [1] * more)


def fair_with(shares, amounts):
    """The pairs of a FAIR SHARE with these amounts of rows."""
    rows = rows_by(shares)
    return tuple([(row, amounts[at]) for at, row in enumerate(rows) if at in amounts])


def held_by(shares, prices):
    """The prices of all pairs of the SHARES: a tuple for each SHARE."""
    held = []
    for share in shares:
        held.append(tuple(prices[:len(share)]))
        prices = prices[len(share):]
    return tuple(held)


def dealt_by(shares, prices):
    """The prices of all beginnings."""
    start = sum([len(share) for share in shares])
    return tuple(prices[start:start + len(beginnings_by(shares))])
