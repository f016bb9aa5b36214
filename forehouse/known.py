"""KNOWN SHARES of days, the FAIR SHARES of them, and CLAIMS."""

from forehouse.errors import BadClaim, BadFair, BadKnown
from forehouse.exact import added_up, divided, multiplied
from forehouse.fairlines import beginnings_by, rows_by
from forehouse.fairshares import days_of, is_fair, share_on
from forehouse.dayviews import MOST_DAYS
from forehouse.kinds import copied, is_integer, is_row, is_row_within
from forehouse.relation import why_not_wider
from forehouse.shares import is_share, total_of

MOST_ROWS = 36
MOST_CLAIMED = 1000000


def are_known(thing):
    """Whether any thing is KNOWN."""
    if not is_row_within(thing, 1, MOST_DAYS) or not all([is_share(share) for share in thing]):
        return False
    many = 1
    for share in thing:
        many = many * len(share)
    if many > MOST_ROWS:
        return False
    known = copied(thing)
    return all([why_not_wider(known[at], known[at + 1]) is None for at in range(len(known) - 1)])


def sure_known(thing):
    """A plain copy of what is KNOWN."""
    if not are_known(thing):
        raise BadKnown(thing)
    return copied(thing)


def is_within_a_million(thing):
    return is_integer(thing) and -MOST_CLAIMED <= thing <= MOST_CLAIMED


def is_claim(known, thing):
    """Whether any thing is a CLAIM on what is KNOWN."""
    if not is_row(thing, len(rows_by(known))):
        return False
    return all([is_within_a_million(part) for part in thing])


def sure_claim(known, thing):
    """A plain copy of a CLAIM on what is KNOWN."""
    if not is_claim(known, thing):
        raise BadClaim(thing)
    return copied(thing)


def is_of(known, thing):
    """Whether any thing is a FAIR SHARE of what is KNOWN."""
    if not is_fair(thing) or days_of(thing) != len(known):
        return False
    fair = copied(thing)
    return all([share_on(fair, day) == share for day, share in enumerate(known)])


def sure_fair_of(known, thing):
    """A plain copy of a FAIR SHARE of what is KNOWN."""
    if not is_of(known, thing):
        raise BadFair(thing)
    return copied(thing)


def mean_of_claim(known, fair, claim):
    """The MEAN of a CLAIM by a FAIR SHARE."""
    paid = {row: part for row, part in zip(rows_by(known), claim)}
    whole = added_up([multiplied(weight, (paid[path], 1)) for path, weight in fair])
    return divided(whole, total_of(known[0]))


def need_known(thing):
    sure_known(thing)
    return thing


def rows_of(known):
    return tuple(rows_by(sure_known(known)))


def beginnings(known):
    return tuple(beginnings_by(sure_known(known)))


def is_fair_of(known, value):
    return is_of(sure_known(known), value)


def need_claim(known, thing):
    sure_claim(sure_known(known), thing)
    return thing


def mean_by(known, fair, claim):
    known = sure_known(known)
    fair = sure_fair_of(known, fair)
    claim = sure_claim(known, claim)
    return mean_of_claim(known, fair, claim)
