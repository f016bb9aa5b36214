"""The least of a sum of costs under equations, by exchanging one column at a time.

All rows hold integers over one common scale, so nothing is ever rounded: each
division in what follows leaves no rest.
"""

from forehouse.exact import made


def opening(matrix, bounds, costs):
    """The first rows: the equations, each with a column of its own, and the costs."""
    many = len(matrix)
    rows = []
    for at, row in enumerate(matrix):
        rows.append(row + [1 if own == at else 0 for own in range(many)] + [bounds[at]])
    rows.append(costs + [0] * (many + 1))
    return rows


def exchanged(rows, at, col, scale):
    """The rows behind an exchange, the one at that place taking the column; their scale."""
    chief = rows[at] if rows[at][col] > 0 else [-part for part in rows[at]]
    lead = chief[col]
    out = []
    for number, row in enumerate(rows):
        if number == at:
            out.append(chief)
        else:
            factor = row[col]
            out.append([(part * lead - factor * by) // scale for part, by in zip(row, chief)])
    return (out, lead)


def first_row(rows, basis, col, many):
    """The first equation that has no real column yet, and can take this one."""
    for at in range(len(basis)):
        if basis[at] >= many and rows[at][col] != 0:
            return at
    return None


def first_col(row, many):
    for col in range(many):
        if row[col] != 0:
            return col
    return None


def seated(rows, start, many):
    """Rows, their columns and scale, such that the columns of start, and others, are taken."""
    basis = [many + at for at in range(len(rows) - 1)]
    scale = 1
    for col in start:
        at = first_row(rows, basis, col, many)
        rows, scale = exchanged(rows, at, col, scale)
        basis[at] = col
    # The other equations have bound 0 now; those without any column say nothing new.
    for at in range(len(basis)):
        col = first_col(rows[at], many) if basis[at] >= many else None
        if col is not None:
            rows, scale = exchanged(rows, at, col, scale)
            basis[at] = col
    return (rows, basis, scale)


def entering(costs, many):
    """The first column that makes the sum less, or None."""
    # The first one, not the steepest one: so the exchanges never go in a ring.
    for col in range(many):
        if costs[col] < 0:
            return col
    return None


def leaving(rows, basis, col):
    """The row that allows least of the column, of several that with the first column."""
    best = None
    for at in range(len(basis)):
        if rows[at][col] > 0:
            if best is None:
                best = at
                continue
            gap = rows[at][-1] * rows[best][col] - rows[best][-1] * rows[at][col]
            if gap < 0 or (gap == 0 and basis[at] < basis[best]):
                best = at
    return best


def least_sum(matrix, bounds, costs, start):
    """The amounts, all from 0 on, with the least costs, and the price of each equation.

    matrix, bounds and costs are integers; start has the columns of some amounts that
    keep the equations, so few that no others of these columns alone do. The amounts
    come as a dict without those that are 0, the prices as a list.
    """
    many = len(costs)
    rows, basis, scale = seated(opening(matrix, bounds, costs), start, many)
    while True:
        col = entering(rows[-1], many)
        if col is None:
            break
        at = leaving(rows, basis, col)
        rows, scale = exchanged(rows, at, col, scale)
        basis[at] = col
    amounts = {}
    for at, col in enumerate(basis):
        if rows[at][-1] != 0:
            amounts[col] = made(rows[at][-1], scale)
    prices = [made(-rows[-1][many + at], scale) for at in range(len(matrix))]
    return (amounts, prices)
