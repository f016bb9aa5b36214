"""DECISIONS: DEEDS to choose from, and what LOOKS are worth for them."""

from forehouse.errors import BadDecision
from forehouse.exact import NOUGHT, ONE, added, added_up, contrary, divided, greater, is_under
from forehouse.exact import multiplied, taken
from forehouse.kinds import are_fractions, copied, is_row_within
from forehouse.looks import share_of_look, sure_look, sure_looks, sure_prior
from forehouse.ratios import sure_fraction
from forehouse.relation import is_rest_less

MOST_DEEDS = 6


def is_decision(thing):
    """Whether any thing is a DECISION."""
    return is_row_within(thing, 1, MOST_DEEDS) and all([are_fractions(deed, 2) for deed in thing])


def sure_decision(thing):
    """A plain copy of a DECISION."""
    if not is_decision(thing):
        raise BadDecision(thing)
    return copied(thing)


def brought(deed, yes, no):
    """What a DEED brings, weighed by how likely yes and no are."""
    return added(multiplied(yes, deed[0]), multiplied(no, deed[1]))


def most_brought(decision, yes, no):
    best = brought(decision[0], yes, no)
    for deed in decision[1:]:
        best = greater(best, brought(deed, yes, no))
    return best


def worth_by(look, prior, decision):
    """The WORTH of a DECISION with a LOOK."""
    rest = taken(ONE, prior)
    return added_up([most_brought(decision, multiplied(prior, yes), multiplied(rest, no))
                     for yes, no in look])


def first_deed(decision):
    """The DEED with the greatest B, of several the one with the greatest A."""
    best = decision[0]
    for deed in decision[1:]:
        if is_under(best[1], deed[1]) or (best[1] == deed[1] and is_under(best[0], deed[0])):
            best = deed
    return best


def slope_of(deed):
    return taken(deed[0], deed[1])


def bend_to(deed, later):
    """From where on a DEED with a greater slope brings more, and how much more its slope is."""
    rise = taken(slope_of(later), slope_of(deed))
    return (divided(taken(deed[1], later[1]), rise), rise)


def next_bend(decision, deed):
    """The first bend behind which another DEED brings more, and this DEED; or None."""
    best = None
    for later in decision:
        if not is_under(slope_of(deed), slope_of(later)):
            continue
        at, rise = bend_to(deed, later)
        # Of several that begin there the steepest is what brings the most behind it.
        if best is None or is_under(at, best[0]) or (at == best[0] and is_under(best[1], rise)):
            best = (at, rise, later)
    return best


def bends_of(decision):
    """The BENDS of a DECISION."""
    out = []
    step = next_bend(decision, first_deed(decision))
    while step is not None and is_under(step[0], ONE):
        out.append((step[0], step[1]))
        step = next_bend(decision, step[2])
    return tuple(out)


def decision_at(mark):
    """The DECISION of a MARK."""
    return ((taken(ONE, mark), contrary(mark)), (NOUGHT, NOUGHT))


def bend_between(look, other, prior, decision):
    """The first T of BENDS at which the SHARE of other has a greater REST than look's, or None."""
    one = share_of_look(other, prior)
    far = share_of_look(look, prior)
    for mark, _ in bends_of(decision):
        if is_rest_less(one, far, mark):
            return mark
    return None


def need_decision(thing):
    sure_decision(thing)
    return thing


def worth_for(look, prior, decision):
    look = sure_look(look)
    prior = sure_prior(prior)
    decision = sure_decision(decision)
    return worth_by(look, prior, decision)


def line_of(decision):
    return first_deed(sure_decision(decision))


def bends(decision):
    return bends_of(sure_decision(decision))


def of_mark(mark):
    return decision_at(sure_fraction(mark))


def mark_by(look, other, prior, decision):
    look, other = sure_looks(look, other)
    prior = sure_prior(prior)
    decision = sure_decision(decision)
    return bend_between(look, other, prior, decision)
