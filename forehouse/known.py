"""KNOWN SHARES of days, the FAIR SHARES of them, and CLAIMS."""

from forehouse.errors import BadClaim, BadFair, BadKnown
from forehouse.exact import added_up, divided, multiplied
from forehouse.fairlines import beginnings_by, rows_by
from forehouse.fairshares import days_of, fair_in, share_on
from forehouse.dayviews import MOST_DAYS
from forehouse.kinds import copied, is_integer, is_row, is_row_within
from forehouse.relation import why_not_wider
from forehouse.shares import MOST_PAIRS, copied_share, is_share, total_of

MOST_ROWS = 36
MOST_CLAIMED = 1000000


def many_rows(shares):
    """How many rows there are of one NUMBER of each SHARE."""
    many = 1
    for share in shares:
        many = many * len(share)
    return many


def are_few_shares(thing):
    """Whether any thing is a tuple of 1 to 3 SHARES that has few enough rows."""
    if not is_row_within(thing, 1, MOST_DAYS):
        return False
    if not all([is_row_within(share, 1, MOST_PAIRS) for share in thing]):
        return False
    return many_rows(thing) <= MOST_ROWS and all([is_share(share) for share in thing])


def sure_known(thing):
    """A plain copy of what is KNOWN."""
    if not are_few_shares(thing):
        raise BadKnown(thing)
    known = tuple([copied_share(share) for share in thing])
    for one, other in zip(known, known[1:]):
        if why_not_wider(one, other) is not None:
            raise BadKnown(thing)
    return known


def is_within_a_million(thing):
    return is_integer(thing) and -MOST_CLAIMED <= thing <= MOST_CLAIMED


def is_claim(known, thing):
    """Whether any thing is a CLAIM on what is KNOWN."""
    if not is_row(thing, many_rows(known)):
        return False
    return all([is_within_a_million(part) for part in thing])


def sure_claim(known, thing):
    """A plain copy of a CLAIM on what is KNOWN."""
    if not is_claim(known, thing):
        raise BadClaim(thing)
    return copied(thing)


def fair_of_in(known, thing):
    """A plain copy of a FAIR SHARE of what is KNOWN, or None of any other thing."""
    fair = fair_in(thing)
    if fair is None or days_of(fair) != len(known):
        return None
    same = all([share_on(fair, day) == share for day, share in enumerate(known)])
    return fair if same else None


def sure_fair_of(known, thing):
    """A plain copy of a FAIR SHARE of what is KNOWN."""
    fair = fair_of_in(known, thing)
    if fair is None:
        raise BadFair(thing)
    return fair


def mean_of_claim(known, fair, claim):
    """The MEAN of a CLAIM by a FAIR SHARE."""
    paid = {row: part for row, part in zip(rows_by(known), claim)}
    whole = added_up([multiplied(weight, (paid[path], 1)) for path, weight in fair])
    return divided(whole, total_of(known[0]))


def need_known(thing):
    sure_known(thing)
    return thing


def rows_of(known):
    return tuple(rows_by(sure_known(known)))


def beginnings(known):
    return tuple(beginnings_by(sure_known(known)))


def is_fair_of(known, value):
    return fair_of_in(sure_known(known), value) is not None


def need_claim(known, thing):
    sure_claim(sure_known(known), thing)
    return thing


def mean_by(known, fair, claim):
    known = sure_known(known)
    fair = sure_fair_of(known, fair)
    claim = sure_claim(known, claim)
    return mean_of_claim(known, fair, claim)
