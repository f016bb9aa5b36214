"""Mild FORECASTERS against one another, and BLENDS of them."""

from forehouse.errors import BadForecaster, BadParts
from forehouse.exact import ONE, added_up, divided, is_under, multiplied, summed_products, taken
from forehouse.kinds import are_fractions, copied, is_row_within, is_weight
from forehouse.runs import all_chances, are_mild, is_forecaster, number_of, sure_length, sure_run

MOST_FORECASTERS = 4


def is_mild_one(length, thing):
    """Whether any thing is a mild FORECASTER of so many days."""
    return is_forecaster(length, thing) and are_mild(thing)


def sure_mild(length, thing):
    """A plain copy of a mild FORECASTER."""
    if not is_mild_one(length, thing):
        raise BadForecaster(thing)
    return copied(thing)


def sure_some(length, thing):
    """A plain copy of FORECASTERS."""
    if not is_row_within(thing, 1, MOST_FORECASTERS):
        raise BadForecaster(thing)
    for one in thing:
        if not is_mild_one(length, one):
            raise BadForecaster(one)
    return copied(thing)


def sure_parts(many, thing):
    """A plain copy of PARTS of so many FORECASTERS."""
    if not are_fractions(thing, many) or not all([is_weight(part) for part in thing]):
        raise BadParts(thing)
    if added_up(copied(thing)) != ONE:
        raise BadParts(thing)
    return copied(thing)


def sure_against(length, forecaster, rival):
    """Plain copies of a LENGTH, of a mild FORECASTER and its rival."""
    length = sure_length(length)
    forecaster = sure_mild(length, forecaster)
    return (length, forecaster, sure_mild(length, rival))


def own_chances(forecaster):
    """The CHANCES of all RUNS by a mild FORECASTER, in their order."""
    return all_chances([low for low, _ in forecaster])


def rival_stake(part, far, capital):
    """What is staked where a FORECASTER tells a part, its rival another one."""
    spread = multiplied(part, taken(ONE, part))
    return multiplied(capital, divided(taken(far, part), spread))


def rival_bets(length, forecaster, rival):
    length, forecaster, rival = sure_against(length, forecaster, rival)
    held = [divided(later, own) for own, later in zip(own_chances(forecaster), own_chances(rival))]
    return tuple([rival_stake(near[0], far[0], part)
                  for near, far, part in zip(forecaster, rival, held)])


def rival_capital(length, forecaster, rival, run):
    length, forecaster, rival = sure_against(length, forecaster, rival)
    number = number_of(sure_run(length, run))
    return divided(own_chances(rival)[number], own_chances(forecaster)[number])


def blend(length, some, parts):
    length = sure_length(length)
    some = sure_some(length, some)
    parts = sure_parts(len(some), parts)
    rows = [own_chances(one) for one in some]
    together = [summed_products(parts, col) for col in zip(*rows)]
    told = [divided(together[2 * at + 2], together[at]) for at in range(len(some[0]))]
    return tuple([(part, part) for part in told])


def leaders(length, some, run):
    length = sure_length(length)
    some = sure_some(length, some)
    number = number_of(sure_run(length, run))
    found = [own_chances(one)[number] for one in some]
    return tuple([at for at, part in enumerate(found)
                  if not any([is_under(part, other) for other in found])])
