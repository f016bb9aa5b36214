"""The least of a sum of costs under equations, by exchanging one amount for another.

A stand is a tuple (rows, heads, sides, scale): in each row the amount that heads
it, scale times, and all amounts at the sides, each times the integer below it, are
together the last integer of the row. So the amounts at the sides may be 0, and the
heads have the last integers, divided by scale. Amounts are told by labels: behind
those of the many that are asked for comes, for each equation, what it lacks.

All rows hold integers over one common scale, so nothing is ever rounded: each
division in what follows leaves no rest.
"""

from forehouse.exact import made


def exchanged(stand, at, col):
    """The stand in which the head of a row and the amount at a side have changed places."""
    rows, heads, sides, scale = stand
    sign = 1 if rows[at][col] > 0 else -1
    chief = [sign * part for part in rows[at]]
    lead = chief[col]
    out = []
    for row in rows:
        factor = row[col]
        if factor == 0:
            # Most rows have nothing there: they stay as they are, but for the scale.
            out.append(row if lead == scale else [part * lead // scale for part in row])
            continue
        new = [(part * lead - factor * by) // scale for part, by in zip(row, chief)]
        new[col] = -sign * factor
        out.append(new)
    out[at] = chief
    chief[col] = sign * scale
    heads = list(heads)
    sides = list(sides)
    heads[at], sides[col] = sides[col], heads[at]
    return (out, heads, sides, lead)


def cost_line(stand, costs):
    """What one more of each amount at the sides costs in all, scale times."""
    rows, heads, sides, scale = stand
    line = [scale * costs[side] for side in sides] + [0]
    for row, head in zip(rows, heads):
        if costs[head] != 0:
            line = [part - costs[head] * by for part, by in zip(line, row)]
    return line


def first_side(line, sides, many):
    """The side with the first of the amounts that make the costs less, or None."""
    best = None
    for col, side in enumerate(sides):
        if side < many and line[col] < 0 and (best is None or side < sides[best]):
            best = col
    return best


def steepest_side(line, sides, many):
    """The side with the amount of which one more makes the costs least, or None."""
    best = None
    for col, side in enumerate(sides):
        if side < many and line[col] < 0 and (best is None or line[col] < line[best]):
            best = col
    return best


def leaving(rows, heads, col):
    """The row that allows least of what enters, of several that with the first head."""
    best = None
    for at in range(len(heads)):
        if rows[at][col] > 0:
            if best is None:
                best = at
                continue
            gap = rows[at][-1] * rows[best][col] - rows[best][-1] * rows[at][col]
            if gap < 0 or (gap == 0 and heads[at] < heads[best]):
                best = at
    return best


def next_step(stand, many, stuck):
    """The row and the side that change places next, by the last row of costs, or None."""
    rows, heads, sides, _ = stand
    line = rows[-1]
    # Exchanges that change no amount might go in a ring, but not if the first enters.
    col = first_side(line, sides, many) if stuck else steepest_side(line, sides, many)
    at = None if col is None else leaving(rows, heads, col)
    return None if at is None else (at, col)


def without_last(stand):
    rows, heads, sides, scale = stand
    return (rows[:-1], heads, sides, scale)


def lowered(stand, costs, many):
    """A stand with the least costs, there being such, and its line of costs."""
    rows, heads, sides, scale = stand
    stand = (rows + [cost_line(stand, costs)], heads, sides, scale)
    step = next_step(stand, many, False)
    while step is not None:
        at, col = step
        stuck = stand[0][at][-1] == 0
        stand = exchanged(stand, at, col)
        step = next_step(stand, many, stuck)
    return (without_last(stand), stand[0][-1])


def free_col(stand, at, many):
    """The first side of an amount of which a row has any, or None."""
    row = stand[0][at]
    cols = [col for col, side in enumerate(stand[2]) if side < many and row[col] != 0]
    return cols[0] if cols else None


def seated(stand, many):
    """The stand in which what an equation lacks, being 0, heads only rows of nothing else."""
    for at in range(len(stand[1])):
        col = free_col(stand, at, many) if stand[1][at] >= many else None
        if col is not None:
            stand = exchanged(stand, at, col)
    return stand


def lack_costs(many, lacks):
    return [0] * many + [1] * lacks


def opened(rows):
    """The stand in which each equation lacks all of its bound, which is last in its row."""
    many = len(rows[0]) - 1
    return (rows, [many + at for at in range(len(rows))], list(range(many)), 1)


def begun(matrix, bounds):
    """A stand that lacks as little as can be, and whether it lacks nothing."""
    many = len(matrix[0])
    rows = [row + [bound] for row, bound in zip(matrix, bounds)]
    stand, line = lowered(opened(rows), lack_costs(many, len(matrix)), many)
    if line[-1] != 0:
        return (stand, False)
    return (seated(stand, many), True)


def amounts_of(stand, many):
    """All amounts that are above 0, in a dict."""
    rows, heads, _, scale = stand
    return {head: made(row[-1], scale) for row, head in zip(rows, heads)
            if head < many and row[-1] != 0}


def prices_of(stand, costs, many):
    """For each equation what one more of its bound costs."""
    line = cost_line(stand, costs)
    cols = {side: col for col, side in enumerate(stand[2])}
    out = []
    for label in range(many, len(costs)):
        spared = line[cols[label]] if label in cols else 0
        out.append(made(costs[label] * stand[3] - spared, stand[3]))
    return out


def least_sum(matrix, bounds, costs):
    """The amounts above 0 that keep equations with the least costs, in a dict, and prices.

    All are integers, no bound is below 0. For each amount the prices of the equations,
    times what it has there, are together no more than what it costs; times the bounds
    they are the least costs. If no amounts keep the equations, the first is None, and
    the prices are, likewise, together not above 0, but times the bounds above 0.
    """
    many = len(costs)
    stand, can_be = begun(matrix, bounds)
    if not can_be:
        return (None, prices_of(stand, lack_costs(many, len(matrix)), many))
    costs = costs + [0] * len(matrix)
    stand = lowered(stand, costs, many)[0]
    return (amounts_of(stand, many), prices_of(stand, costs, many))
