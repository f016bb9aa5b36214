"""The LEFT TABLE and the RIGHT TABLE of SHARES of which the second one is WIDER.

A NUMBER goes to one stretch of what is left of the wider SHARE: to all between
its ends, and at the ends perhaps to a part. Taken from left to right, no later
NUMBER then goes strictly between two to which an earlier one goes.
"""

from forehouse.exact import NOUGHT, added, added_up, divided, greater, is_under, lesser
from forehouse.exact import multiplied, summed_products, taken, unlike_in_order
from forehouse.shares import numbers_of
from forehouse.tables import table_from


def edges_of(weights):
    """The sums of all weights ahead of each, and of all at last."""
    edges = [NOUGHT]
    for weight in weights:
        edges.append(added(edges[-1], weight))
    return edges


def covered(edges, low, high):
    """How much of each weight lies from low to high."""
    out = []
    for at in range(len(edges) - 1):
        start = greater(edges[at], low)
        end = lesser(edges[at + 1], high)
        out.append(taken(end, start) if is_under(start, end) else NOUGHT)
    return out


def starts_of(edges, weight):
    """All places, ascending, from which so much weight begins or ends at an edge."""
    some = edges + [taken(edge, weight) for edge in edges]
    last = taken(edges[-1], weight)
    return [place for place in unlike_in_order(some)
            if not is_under(place, NOUGHT) and not is_under(last, place)]


def worth_from(numbers, edges, place, weight):
    """The sum of NUMBERS times what of each so much weight from a place on covers."""
    return summed_products(numbers, covered(edges, place, added(place, weight)))


def first_worth(numbers, edges, starts, weight, wanted):
    """The number of the first place from which so much weight is worth no less than is wanted."""
    low, high = 0, len(starts) - 1
    # What is covered is worth no less the later it begins.
    while low < high:
        middle = (low + high) // 2
        if is_under(worth_from(numbers, edges, starts[middle], weight), wanted):
            low = middle + 1
        else:
            high = middle
    return low


def stretch_for(numbers, weights, number, weight):
    """How much of each weight a NUMBER with its WEIGHT goes to, one stretch of it."""
    edges = edges_of(weights)
    wanted = multiplied(number, weight)
    starts = starts_of(edges, weight)
    at = first_worth(numbers, edges, starts, weight, wanted)
    place = starts[at]
    found = worth_from(numbers, edges, place, weight)
    if found != wanted:
        # Between such places what is covered grows evenly.
        ahead = worth_from(numbers, edges, starts[at - 1], weight)
        part = divided(taken(wanted, ahead), taken(found, ahead))
        place = added(starts[at - 1], multiplied(part, taken(place, starts[at - 1])))
    return covered(edges, place, added(place, weight))


def stepped(pairs, other):
    """The TABLE to which the pairs of a SHARE lead, each in turn."""
    numbers = numbers_of(other)
    weights = [weight for _, weight in other]
    steps = {}
    for number, weight in pairs:
        parts = stretch_for(numbers, weights, number, weight)
        for far, part in zip(numbers, parts):
            if part != NOUGHT:
                steps[(number, far)] = part
        weights = [taken(whole, part) for whole, part in zip(weights, parts)]
    return table_from(steps)


def left_curtain(one, other):
    return stepped(one, other)


def right_curtain(one, other):
    return stepped(one[::-1], other)


def far_share(table, numbers):
    """The pairs to which the STEPS from these NUMBERS go."""
    fars = unlike_in_order([far for near, far, _ in table if near in numbers])
    return tuple([(far, added_up([weight for near, end, weight in table
                                  if end == far and near in numbers])) for far in fars])
