"""WORLDS and what hangs on them: plain copies of what is right, errors of the rest."""

from forehouse.errors import BadBet, BadEvent, BadState, BadView, BadViews, BadWorld
from forehouse.kinds import are_fractions, copied, is_fraction, is_place, is_row, is_row_within
from forehouse.kinds import is_weight

MOST_STATES = 36
MOST_VIEWS = 4


def is_state(thing):
    return is_row(thing, 2) and is_weight(thing[0]) and is_fraction(thing[1])


def is_world(thing):
    """Whether any thing is a WORLD."""
    return is_row_within(thing, 1, MOST_STATES) and all([is_state(state) for state in thing])


def sure_world(thing):
    if not is_row_within(thing, 1, MOST_STATES):
        raise BadWorld("form")
    for number, state in enumerate(thing):
        if not is_state(state):
            raise BadWorld(number)
    return copied(thing)


def is_lot(thing, many):
    """Whether it is a LOT of a WORLD with so many STATES."""
    if not isinstance(thing, tuple) or not all([is_place(state, many) for state in thing]):
        return False
    return all([thing[at] < thing[at + 1] for at in range(len(thing) - 1)])


def is_cell(thing, many):
    return is_lot(thing, many) and len(thing) > 0


def is_view(thing, many):
    """Whether it is a VIEW of a WORLD with so many STATES."""
    if not isinstance(thing, tuple) or not all([is_cell(cell, many) for cell in thing]):
        return False
    # CELLS without a common STATE are in order exactly if their first STATES are.
    firsts = [cell[0] for cell in thing]
    states = [state for cell in thing for state in cell]
    return firsts == sorted(firsts) and sorted(states) == list(range(many))


def sure_view(world, thing):
    if not is_view(thing, len(world)):
        raise BadView(thing)
    return copied(thing)


def sure_views(world, thing):
    if not is_row_within(thing, 1, MOST_VIEWS):
        raise BadViews(thing)
    if not all([is_view(view, len(world)) for view in thing]):
        raise BadViews(thing)
    return copied(thing)


def sure_state(world, thing):
    if not is_place(thing, len(world)):
        raise BadState(thing)
    return copied(thing)


def sure_event(world, thing):
    if not is_lot(thing, len(world)):
        raise BadEvent(thing)
    return copied(thing)


def sure_cell(world, thing):
    if not is_cell(thing, len(world)):
        raise BadEvent(thing)
    return copied(thing)


def sure_bet(world, thing):
    if not are_fractions(thing, len(world)):
        raise BadBet(thing)
    return copied(thing)
