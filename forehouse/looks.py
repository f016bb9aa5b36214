"""LOOKS at one case, and CASE SHARES."""

from forehouse.errors import BadCase, BadLook, BadPrior, TooMany
from forehouse.exact import HALF, NOUGHT, ONE, added, added_up, divided, do_ascend, is_under
from forehouse.exact import multiplied, taken
from forehouse.kinds import copied, is_fraction, is_price, is_row, is_row_within
from forehouse.shares import is_share, moment_of, pairs_in_order, total_of
from forehouse.worlds import sure_view, sure_world

MOST_SIGNALS = 6


def is_signal(thing):
    if not is_row(thing, 2) or not is_price(thing[0]) or not is_price(thing[1]):
        return False
    return thing[0][0] > 0 or thing[1][0] > 0


def is_look(thing):
    if not is_row_within(thing, 1, MOST_SIGNALS) or not all([is_signal(part) for part in thing]):
        return False
    look = copied(thing)
    return added_up([yes for yes, _ in look]) == ONE and added_up([no for _, no in look]) == ONE


def sure_look(thing):
    """A plain copy of a LOOK."""
    if not is_look(thing):
        raise BadLook(thing)
    return copied(thing)


def sure_looks(look, other):
    """Plain copies of two LOOKS."""
    look = sure_look(look)
    return (look, sure_look(other))


def sure_prior(thing):
    """A plain copy of a PRIOR."""
    if not is_fraction(thing) or not 0 < thing[0] < thing[1]:
        raise BadPrior(thing)
    return copied(thing)


def is_case(thing):
    """Whether any thing is a CASE SHARE."""
    if not is_share(thing):
        return False
    case = copied(thing)
    if is_under(case[0][0], NOUGHT) or is_under(ONE, case[-1][0]) or total_of(case) != ONE:
        return False
    moment = moment_of(case)
    return is_under(NOUGHT, moment) and is_under(moment, ONE)


def sure_case(thing):
    """A plain copy of a CASE SHARE."""
    if not is_case(thing):
        raise BadCase(thing)
    return copied(thing)


def pair_by(signal, prior):
    """The NUMBER and the WEIGHT of a SIGNAL."""
    yes = multiplied(prior, signal[0])
    weight = added(yes, multiplied(taken(ONE, prior), signal[1]))
    return (divided(yes, weight), weight)


def share_of_look(look, prior):
    return pairs_in_order([pair_by(signal, prior) for signal in look])


def look_of_case(case):
    """The LOOK of a CASE SHARE."""
    prior = moment_of(case)
    return tuple([(divided(multiplied(weight, number), prior),
                   divided(multiplied(weight, taken(ONE, number)), taken(ONE, prior)))
                  for number, weight in case])


def plain_by(signals):
    """The PLAIN LOOK of SIGNALS, however many there are."""
    return look_of_case(share_of_look(signals, HALF))


def need_look(thing):
    sure_look(thing)
    return thing


def share_by(look, prior):
    look = sure_look(look)
    prior = sure_prior(prior)
    return share_of_look(look, prior)


def look_of(case):
    return look_of_case(sure_case(case))


def is_plain(look):
    return do_ascend([pair_by(signal, HALF)[0] for signal in sure_look(look)])


def plain(look):
    return plain_by(sure_look(look))


def both_of(look, other):
    look, other = sure_looks(look, other)
    signals = [(multiplied(yes, far_yes), multiplied(no, far_no))
               for yes, no in look for far_yes, far_no in other]
    both = plain_by([signal for signal in signals if signal != (NOUGHT, NOUGHT)])
    if len(both) > MOST_SIGNALS:
        raise TooMany(MOST_SIGNALS)
    return both


def sure_case_world(thing):
    """A plain copy of a CASE WORLD."""
    world = sure_world(thing)
    worths = {worth: True for _, worth in world}
    if len(worths) != 2 or NOUGHT not in worths or ONE not in worths:
        raise BadCase(thing)
    return world


def weight_of(world, cell, worth):
    """The WEIGHTS of all STATES of a CELL with this WORTH."""
    return added_up([world[state][0] for state in cell if world[state][1] == worth])


def view_look(world, view):
    world = sure_case_world(world)
    view = sure_view(world, view)
    if len(view) > MOST_SIGNALS:
        raise TooMany(MOST_SIGNALS)
    states = tuple(range(len(world)))
    yes = weight_of(world, states, ONE)
    no = weight_of(world, states, NOUGHT)
    return tuple([(divided(weight_of(world, cell, ONE), yes),
                   divided(weight_of(world, cell, NOUGHT), no)) for cell in view])
