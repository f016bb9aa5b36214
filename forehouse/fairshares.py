"""FAIR SHARES: how often each PATH of some days comes."""

from forehouse.curtain import left_curtain
from forehouse.dayviews import MOST_DAYS, fair_from
from forehouse.errors import BadDay, BadFair, BadRow, BadShare, TooMany
from forehouse.exact import NOUGHT, added, divided, is_row_under, multiplied, taken
from forehouse.kinds import are_fractions, copied, is_place, is_row, is_row_within, is_weight
from forehouse.relation import need_wider
from forehouse.shares import MOST_PAIRS, is_share, pairs_in_order
from forehouse.tables import left_of, right_of, table_from, table_in

MOST_PATHS = 36
MOST_TABLES = 2


def have_paths(thing):
    """Whether a tuple has pairs of a PATH and a WEIGHT, all PATHS of the same DAYS."""
    if not all([is_row(pair, 2) and is_row_within(pair[0], 1, MOST_DAYS) for pair in thing]):
        return False
    days = len(thing[0][0])
    return all([are_fractions(path, days) and is_weight(weight) for path, weight in thing])


def drifts_of(fair):
    """For each beginning of PATHS the sum of WEIGHTS times what the next NUMBER is more."""
    drifts = {}
    for path, weight in fair:
        for many in range(1, len(path)):
            drift = multiplied(weight, taken(path[many], path[many - 1]))
            drifts[path[:many]] = added(drifts.get(path[:many], NOUGHT), drift)
    return drifts


def fair_in(thing):
    """A plain copy of a FAIR SHARE, or None of any other thing."""
    if not is_row_within(thing, 1, MOST_PATHS) or not have_paths(thing):
        return None
    fair = copied(thing)
    if not all([is_row_under(one[0], later[0]) for one, later in zip(fair, fair[1:])]):
        return None
    drifts = drifts_of(fair)
    return fair if all([drifts[beginning] == NOUGHT for beginning in drifts]) else None


def sure_fair(thing):
    """A plain copy of a FAIR SHARE."""
    fair = fair_in(thing)
    if fair is None:
        raise BadFair(thing)
    return fair


def days_of(fair):
    return len(fair[0][0])


def sure_day(many, thing):
    """A plain copy of the number of one of so many days."""
    if not is_place(thing, many):
        raise BadDay(thing)
    return copied(thing)


def share_on(fair, day):
    """The pairs of the SHARE of a day, however many there are."""
    return pairs_in_order([(path[day], weight) for path, weight in fair])


def few_share_on(fair, day):
    """The SHARE of a day."""
    share = share_on(fair, day)
    if len(share) > MOST_PAIRS:
        raise TooMany(MOST_PAIRS)
    return share


def sure_shares(thing):
    """A plain copy of a tuple of 1 to 3 SHARES."""
    if not is_row_within(thing, 1, MOST_DAYS):
        raise BadShare(thing)
    for share in thing:
        if not is_share(share):
            raise BadShare(share)
    return copied(thing)


def is_chain(thing):
    if not is_row_within(thing, 1, MOST_TABLES):
        return False
    tables = [table_in(table) for table in thing]
    if None in tables:
        return False
    return all([right_of(tables[at]) == left_of(tables[at + 1]) for at in range(len(tables) - 1)])


def longer(pairs, table):
    """PATHS one day longer, by the STEPS of a TABLE from their last NUMBERS."""
    weights = {number: weight for number, weight in left_of(table)}
    return [(path + (far,), divided(multiplied(weight, onward), weights[near]))
            for path, weight in pairs for near, far, onward in table if near == path[-1]]


def chained_by(share, chain):
    """The FAIR SHARE of a CHAIN of TABLES from a SHARE, perhaps ()."""
    pairs = [((number,), weight) for number, weight in share]
    for table in chain:
        pairs = longer(pairs, table)
    if len(pairs) > MOST_PATHS:
        raise TooMany(MOST_PATHS)
    return fair_from(pairs)


def need_fair(thing):
    sure_fair(thing)
    return thing


def many_days(fair):
    return days_of(sure_fair(fair))


def day_share(fair, day):
    fair = sure_fair(fair)
    day = sure_day(days_of(fair), day)
    return few_share_on(fair, day)


def day_table(fair, day):
    fair = sure_fair(fair)
    day = sure_day(days_of(fair) - 1, day)
    few_share_on(fair, day)
    few_share_on(fair, day + 1)
    pairs = fair_from([(path[day:day + 2], weight) for path, weight in fair])
    return table_from({path: weight for path, weight in pairs})


def leave_out(fair, day):
    fair = sure_fair(fair)
    at = sure_day(days_of(fair), day)
    if days_of(fair) == 1:
        raise BadDay(day)
    return fair_from([(path[:at] + path[at + 1:], weight) for path, weight in fair])


def chained(chain):
    if not is_chain(chain):
        raise BadRow(chain)
    chain = copied(chain)
    return chained_by(left_of(chain[0]), chain)


def fair_by(shares):
    shares = sure_shares(shares)
    for at in range(len(shares) - 1):
        need_wider(shares[at], shares[at + 1])
    chain = [left_curtain(shares[at], shares[at + 1]) for at in range(len(shares) - 1)]
    return chained_by(shares[0], chain)
