"""HOLDINGS on what is KNOWN: what they PAY, and what they COST."""

from forehouse.errors import BadHolding
from forehouse.exact import added, added_up, divided, multiplied, summed_products, taken
from forehouse.fairlines import beginnings_by, rows_by
from forehouse.kinds import are_fractions, copied, is_row
from forehouse.known import sure_known
from forehouse.shares import numbers_of, total_of, weights_of


def is_holding(known, thing):
    """Whether any thing is a HOLDING on what is KNOWN."""
    if not is_row(thing, 2) or not is_row(thing[0], len(known)):
        return False
    if not all([are_fractions(part, len(share)) for part, share in zip(thing[0], known)]):
        return False
    return are_fractions(thing[1], len(beginnings_by(known)))


def sure_holding(known, thing):
    """A plain copy of a HOLDING on what is KNOWN."""
    if not is_holding(known, thing):
        raise BadHolding(thing)
    return copied(thing)


def dealt(row, deals):
    """What DEALS, in a dict of beginnings, pay on a row."""
    return added_up([multiplied(deals[row[:many]], taken(row[many], row[many - 1]))
                     for many in range(1, len(row))])


def paid_by(known, holding):
    """What a HOLDING PAYS on all rows, in turn."""
    held = [{number: part for number, part in zip(numbers_of(share), parts)}
            for share, parts in zip(known, holding[0])]
    deals = {beginning: part for beginning, part in zip(beginnings_by(known), holding[1])}
    return [added(added_up([parts[number] for parts, number in zip(held, row)]), dealt(row, deals))
            for row in rows_by(known)]


def cost_by(known, holding):
    """The COST of a HOLDING."""
    parts = [summed_products(weights_of(share), held) for share, held in zip(known, holding[0])]
    return divided(added_up(parts), total_of(known[0]))


def pays(known, holding):
    known = sure_known(known)
    holding = sure_holding(known, holding)
    return tuple(paid_by(known, holding))


def cost(known, holding):
    known = sure_known(known)
    holding = sure_holding(known, holding)
    return cost_by(known, holding)
