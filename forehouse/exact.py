"""Reckoning with FRACTIONS that are known to be such."""

from math import gcd

NOUGHT = (0, 1)
ONE = (1, 1)
HALF = (1, 2)


def made(top, bottom):
    if bottom < 0:
        top, bottom = -top, -bottom
    shared = gcd(top, bottom)
    return (top // shared, bottom // shared)


def added(one, other):
    top, bottom = one
    far_top, far_bottom = other
    # What both bottoms share is all that can be left to shorten: less to divide at once.
    shared = gcd(bottom, far_bottom)
    part = bottom // shared
    whole = top * (far_bottom // shared) + far_top * part
    rest = gcd(whole, shared)
    return (whole // rest, part * (far_bottom // rest))


def taken(one, other):
    """The first one less the second one."""
    return added(one, contrary(other))


def multiplied(one, other):
    top, bottom = one
    far_top, far_bottom = other
    near = gcd(top, far_bottom)
    far = gcd(far_top, bottom)
    return ((top // near) * (far_top // far), (bottom // far) * (far_bottom // near))


def divided(one, other):
    top, bottom = other
    return multiplied(one, (bottom, top) if top > 0 else (-bottom, -top))


def contrary(one):
    return (-one[0], one[1])


def is_under(one, other):
    return one[0] * other[1] < other[0] * one[1]


def is_strictly_between(low, middle, high):
    return is_under(low, middle) and is_under(middle, high)


def lesser(one, other):
    return other if is_under(other, one) else one


def greater(one, other):
    return other if is_under(one, other) else one


def excess(one, other):
    """What the first one is more than the second one, nought if it is not."""
    return taken(one, other) if is_under(other, one) else NOUGHT


def half_square(one):
    top, bottom = one
    shared = gcd(top, 2)
    return (top * (top // shared), bottom * bottom * (2 // shared))


def added_up(some):
    """The sum of a list."""
    # Two by two: so few sums have to do with an immense common denominator.
    parts = list(some)
    while len(parts) > 1:
        sums = [added(parts[at], parts[at + 1]) for at in range(0, len(parts) - 1, 2)]
        parts = sums + parts[2 * len(sums):]
    return parts[0] if parts else NOUGHT


def summed_products(some, others):
    """The sum of the products of each two at the same place."""
    return added_up([multiplied(one, other) for one, other in zip(some, others)])


def do_ascend(some):
    """Whether each is greater than the one ahead."""
    return all([one[0] * other[1] < other[0] * one[1] for one, other in zip(some, some[1:])])


def merged(some, others):
    """Both ordered lists as one."""
    out = []
    at = 0
    for one in some:
        while at < len(others) and is_under(others[at], one):
            out.append(others[at])
            at += 1
        out.append(one)
    return out + others[at:]


def in_order(some):
    """The list of all of them, the least first."""
    # Merging needs no common denominator, which may be immense for many of them.
    runs = [[one] for one in some]
    while len(runs) > 1:
        pairs = [merged(runs[at], runs[at + 1]) for at in range(0, len(runs) - 1, 2)]
        runs = pairs + runs[2 * len(pairs):]
    return runs[0] if runs else []


def unlike_in_order(some):
    """The list of all unlike ones, the least first."""
    return in_order(list({one: True for one in some}))


def ranks(some):
    """For each of them how many unlike ones are less, in a dict."""
    return {one: rank for rank, one in enumerate(unlike_in_order(some))}


def is_row_under(one, other):
    """Whether the first unlike FRACTION of two tuples of as many is less in the first one."""
    for part, far in zip(one, other):
        if part != far:
            return is_under(part, far)
    return False


def rows_in_order(rows):
    """The list of all unlike tuples of FRACTIONS, ordered thing by thing."""
    ranked = ranks([part for row in rows for part in row])
    keys = {tuple([ranked[part] for part in row]): row for row in rows}
    return [keys[key] for key in sorted(keys)]
