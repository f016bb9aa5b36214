"""SHARES: how often each NUMBER is told."""

from forehouse.errors import BadShare, TooMany
from forehouse.exact import added, added_up, do_ascend, in_order, summed_products
from forehouse.kinds import is_fraction, is_row_within

MOST_PAIRS = 6


def is_pair(thing):
    """Whether it is a pair of a NUMBER and a WEIGHT."""
    if not isinstance(thing, tuple) or len(thing) != 2:
        return False
    return is_fraction(thing[0]) and is_fraction(thing[1]) and thing[1][0] > 0


def is_share(thing):
    if not is_row_within(thing, 1, MOST_PAIRS) or not all([is_pair(pair) for pair in thing]):
        return False
    return do_ascend([pair[0] for pair in thing])


def copied_share(share):
    """A plain copy of what is a SHARE."""
    return tuple([((int(top), int(bottom)), (int(weight), int(many)))
                  for (top, bottom), (weight, many) in share])


def sure_share(thing):
    if not is_share(thing):
        raise BadShare(thing)
    return copied_share(thing)


def need_share(thing):
    sure_share(thing)
    return thing


def numbers_of(share):
    return tuple([pair[0] for pair in share])


def weights_of(share):
    return tuple([pair[1] for pair in share])


def total_of(share):
    return added_up(weights_of(share))


def moment_of(share):
    return summed_products(numbers_of(share), weights_of(share))


def pairs_in_order(pairs):
    """The pairs of all unlike NUMBERS, ascending, each with the sum of its WEIGHTS."""
    weights = {}
    for number, weight in pairs:
        weights[number] = added(weights[number], weight) if number in weights else weight
    return tuple([(number, weights[number]) for number in in_order(list(weights))])


def total(share):
    return total_of(sure_share(share))


def moment(share):
    return moment_of(sure_share(share))


def put_together(one, other):
    one = sure_share(one)
    other = sure_share(other)
    share = pairs_in_order(one + other)
    if len(share) > MOST_PAIRS:
        raise TooMany(MOST_PAIRS)
    return share
