"""Proofs that certain heads of a stand have the least costs.

Two sets of equations are solved exactly for that: far less than to go all the way there
with exact numbers. What is told is as least_sum of simplex.py tells it.
"""

from forehouse.exact import made


def first_with(rows, at):
    """The first row from a place on that has anything at this place, or None."""
    for number in range(at, len(rows)):
        if rows[number][at] != 0:
            return number
    return None


def solved(rows):
    """The solution of as many equations as unknowns, so many times, and how many; or None.

    The rows are integers, behind those of the unknowns the bound.
    """
    rows = [list(row) for row in rows]
    scale = 1
    for at in range(len(rows)):
        chief = first_with(rows, at)
        if chief is None:
            return None
        rows[at], rows[chief] = rows[chief], rows[at]
        lead = rows[at][at]
        for number in range(at + 1, len(rows)):
            factor = rows[number][at]
            # Each of these divisions leaves no rest.
            rows[number] = [(part * lead - factor * by) // scale
                            for part, by in zip(rows[number], rows[at])]
        scale = lead
    tops = [0] * len(rows)
    for at in range(len(rows) - 1, -1, -1):
        gone = sum([part * top for part, top in zip(rows[at], tops)])
        tops[at] = (scale * rows[at][-1] - gone) // rows[at][at]
    return (tops, scale)


def prices_at(matrix, costs, heads):
    """The prices at which the heads cost just what they do, so many times, and how many; or None.

    costs are those of all amounts, and behind them of what each equation lacks.
    """
    many = len(matrix[0])
    lacking = [at for at in range(len(matrix)) if many + at in heads]
    free = [at for at in range(len(matrix)) if many + at not in heads]
    rows = []
    for col in [head for head in heads if head < many]:
        paid = sum([costs[many + at] * matrix[at][col] for at in lacking])
        rows.append([matrix[at][col] for at in free] + [costs[col] - paid])
    found = solved(rows)
    if found is None:
        return None
    tops, scale = found
    prices = [costs[many + at] * scale for at in range(len(matrix))]
    for at, top in zip(free, tops):
        prices[at] = top
    return signed(prices, scale)


def signed(tops, scale):
    """The same, so many times that this is above 0."""
    return (tops, scale) if scale > 0 else ([-top for top in tops], -scale)


def amounts_at(matrix, bounds, heads):
    """The amounts of the heads that keep the equations, likewise; or None."""
    many = len(matrix[0])
    real = [head for head in heads if head < many]
    free = [at for at in range(len(matrix)) if many + at not in heads]
    found = solved([[matrix[at][col] for col in real] + [bounds[at]] for at in free])
    if found is None:
        return None
    tops, scale = signed(found[0], found[1])
    for row, bound in zip(matrix, bounds):
        if sum([row[col] * top for col, top in zip(real, tops)]) != bound * scale:
            return None
    return ({col: top for col, top in zip(real, tops)}, scale)


def do_bound(matrix, costs, prices, scale):
    """Whether the prices of the equations are for no amount more than what it costs."""
    for col, cost in enumerate(costs):
        if sum([row[col] * price for row, price in zip(matrix, prices)]) > cost * scale:
            return False
    return True


def shown_least(matrix, bounds, costs, heads):
    """What is told, if these heads have the least costs; or None."""
    found = amounts_at(matrix, bounds, heads)
    if found is None or any([found[0][col] < 0 for col in found[0]]):
        return None
    priced = prices_at(matrix, costs + [0] * len(matrix), heads)
    if priced is None or not do_bound(matrix, costs, priced[0], priced[1]):
        return None
    tops, scale = found
    return ({col: made(tops[col], scale) for col in tops if tops[col] != 0},
            [made(price, priced[1]) for price in priced[0]])


def shown_none(matrix, bounds, lacks, heads):
    """What is told, if these heads show that no amounts keep the equations; or None."""
    many = len(matrix[0])
    priced = prices_at(matrix, [0] * many + lacks, heads)
    if priced is None or not do_bound(matrix, [0] * many, priced[0], priced[1]):
        return None
    prices, scale = priced
    if sum([price * bound for price, bound in zip(prices, bounds)]) <= 0:
        return None
    return (None, [made(price, scale) for price in prices])
