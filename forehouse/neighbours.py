"""PAIR CLAIMS: what is paid at the NUMBERS of neighbouring days."""

from forehouse.curtain import left_curtain, right_curtain
from forehouse.errors import BadReward
from forehouse.exact import added_up, divided
from forehouse.extremes import greatest_four, least_four
from forehouse.fairlines import rows_by
from forehouse.fairshares import chained_by
from forehouse.kinds import copied, is_row
from forehouse.known import sure_known
from forehouse.rewards import is_reward, value_by
from forehouse.shares import numbers_of, total_of


def are_rewards(known, thing):
    """Whether any thing is a PAIR CLAIM of what is KNOWN."""
    if not is_row(thing, len(known) - 1):
        return False
    return all([is_reward(known[at], known[at + 1], part) for at, part in enumerate(thing)])


def sure_pairs(known, thing):
    """A plain copy of a PAIR CLAIM of what is KNOWN."""
    if not are_rewards(known, thing):
        raise BadReward(thing)
    return copied(thing)


def paid_on(known, pairs, row):
    """What the REWARDS pay together at the NUMBERS of a row."""
    places = [numbers_of(share).index(number) for share, number in zip(known, row)]
    return sum([reward[places[at]][places[at + 1]] for at, reward in enumerate(pairs)])


def claim_of(known, pairs):
    known = sure_known(known)
    pairs = sure_pairs(known, pairs)
    return tuple([paid_on(known, pairs, row) for row in rows_by(known)])


def mean_of_tables(known, pairs, tables):
    """The sum of the VALUES of all REWARDS by TABLES, divided by the TOTAL."""
    values = [value_by(known[at], known[at + 1], reward, tables[at])
              for at, reward in enumerate(pairs)]
    return divided(added_up(values), total_of(known[0]))


def least_of(known, pairs):
    known = sure_known(known)
    pairs = sure_pairs(known, pairs)
    tables = [least_four(known[at], known[at + 1], reward)[0] for at, reward in enumerate(pairs)]
    return mean_of_tables(known, pairs, tables)


def greatest_of(known, pairs):
    known = sure_known(known)
    pairs = sure_pairs(known, pairs)
    tables = [greatest_four(known[at], known[at + 1], reward)[0]
              for at, reward in enumerate(pairs)]
    return mean_of_tables(known, pairs, tables)


def low_chain(known):
    known = sure_known(known)
    chain = [left_curtain(known[at], known[at + 1]) for at in range(len(known) - 1)]
    return chained_by(known[0], chain)


def high_chain(known):
    known = sure_known(known)
    chain = [right_curtain(known[at], known[at + 1]) for at in range(len(known) - 1)]
    return chained_by(known[0], chain)
