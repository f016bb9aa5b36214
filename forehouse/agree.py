"""Where VIEWS agree, and where two of them bet against one another."""

from forehouse.cells import cell_with, forecasts_by, mean_in, met
from forehouse.errors import BadPaper
from forehouse.exact import NOUGHT, is_under
from forehouse.kinds import is_row
from forehouse.ways import is_way, shortest_way
from forehouse.worlds import sure_bet, sure_state, sure_view, sure_views, sure_world


def agreed(world, views, state):
    world = sure_world(world)
    views = sure_views(world, views)
    state = sure_state(world, state)
    cell = cell_with(met(views, len(world)), state)
    for view in views:
        told = forecasts_by(world, view)
        if any([told[there] != told[state] for there in cell]):
            return None
    return forecasts_by(world, views[0])[state]


def mean_pay(world, view, bet, state):
    """What the BET pays on the mean in the CELL that has the STATE."""
    return mean_in(world, cell_with(view, state), bet)


def does_take(world, view, bet, state):
    return is_under(NOUGHT, mean_pay(world, view, bet, state))


def does_give(world, view, bet, state):
    return is_under(mean_pay(world, view, bet, state), NOUGHT)


def sure_taker(world, view, bet, state):
    """Plain copies of a WORLD, and of a VIEW, a BET and a STATE of it."""
    world = sure_world(world)
    view = sure_view(world, view)
    bet = sure_bet(world, bet)
    return (world, view, bet, sure_state(world, state))


def takes(world, view, bet, state):
    world, view, bet, state = sure_taker(world, view, bet, state)
    return does_take(world, view, bet, state)


def gives(world, view, bet, state):
    world, view, bet, state = sure_taker(world, view, bet, state)
    return does_give(world, view, bet, state)


def unlike_states(world, view, other, bet):
    """All STATES at which view does not take the BET, or other does not give it."""
    return [state for state in range(len(world))
            if not does_take(world, view, bet, state) or not does_give(world, other, bet, state)]


def sure_two(world, view, other, bet, state):
    """Likewise of two VIEWS."""
    world = sure_world(world)
    view = sure_view(world, view)
    other = sure_view(world, other)
    bet = sure_bet(world, bet)
    return (world, view, other, bet, sure_state(world, state))


def bet_way(world, view, other, bet, state):
    world, view, other, bet, state = sure_two(world, view, other, bet, state)
    return shortest_way((view, other), state, unlike_states(world, view, other, bet))


def check_bet(world, view, other, bet, state, paper):
    world, view, other, bet, state = sure_two(world, view, other, bet, state)
    if not is_row(paper, 2):
        raise BadPaper("form")
    states, numbers = paper
    if not is_way((view, other), len(world), states, numbers):
        raise BadPaper("way")
    goals = unlike_states(world, view, other, bet)
    if states[0] != state or states[-1] not in goals:
        raise BadPaper("way")
    if len(numbers) != len(shortest_way((view, other), state, goals)[1]):
        raise BadPaper("way")
