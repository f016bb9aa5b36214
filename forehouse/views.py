"""WORLDS and their VIEWS."""

from forehouse.cells import forecasts_by, grouped, is_finer_than, joined, mean_in, met, parted
from forehouse.cells import places, share_by, worths
from forehouse.errors import BadPaper, TooMany
from forehouse.kinds import is_called, is_place
from forehouse.worlds import sure_bet, sure_cell, sure_view, sure_views, sure_world

MOST_NUMBERS = 6


def need_world(thing):
    sure_world(thing)
    return thing


def need_view(world, thing):
    sure_view(sure_world(world), thing)
    return thing


def mean_of(world, lot):
    world = sure_world(world)
    lot = sure_cell(world, lot)
    return mean_in(world, lot, worths(world))


def forecasts(world, view):
    world = sure_world(world)
    view = sure_view(world, view)
    return forecasts_by(world, view)


def share_of(world, view):
    world = sure_world(world)
    view = sure_view(world, view)
    share = share_by(world, view)
    if len(share) > MOST_NUMBERS:
        raise TooMany(MOST_NUMBERS)
    return share


def join_of(world, views):
    world = sure_world(world)
    views = sure_views(world, views)
    return joined(views)


def meet_of(world, views):
    world = sure_world(world)
    views = sure_views(world, views)
    return met(views, len(world))


def core(world, view):
    world = sure_world(world)
    view = sure_view(world, view)
    return grouped(forecasts_by(world, view))


def is_finer(world, view, other):
    world = sure_world(world)
    view = sure_view(world, view)
    other = sure_view(world, other)
    return is_finer_than(view, other)


def finer_paper(world, view, other):
    world = sure_world(world)
    view = sure_view(world, view)
    other = sure_view(world, other)
    pair = parted(view, other)
    if pair is None:
        return ("finer",)
    return ("apart", pair[0], pair[1])


def check_finer(world, view, other, paper):
    world = sure_world(world)
    view = sure_view(world, view)
    other = sure_view(world, other)
    if is_called(paper, "finer", 1):
        if not is_finer_than(view, other):
            raise BadPaper("finer")
        return "finer"
    if not is_called(paper, "apart", 3):
        raise BadPaper("form")
    if not are_apart(view, other, paper[1], paper[2]):
        raise BadPaper("apart")
    return "apart"


def are_apart(view, other, first, second):
    """Whether they are STATES, in order, of one CELL of a VIEW, and of two of the other one."""
    near = places(view)
    far = places(other)
    if not is_place(first, len(near)) or not is_place(second, len(near)):
        return False
    return first < second and near[first] == near[second] and far[first] != far[second]


def view_by(world, things):
    world = sure_world(world)
    things = sure_bet(world, things)
    return grouped(things)
