"""ROWS of VIEWS, day by day, and their PATHS."""

from forehouse.cells import forecasts_by, is_finer_than
from forehouse.errors import BadRow
from forehouse.exact import NOUGHT, added, rows_in_order
from forehouse.kinds import copied, is_row_within
from forehouse.worlds import is_view, sure_state, sure_world

MOST_DAYS = 3


def is_row_of(world, thing):
    """Whether any thing is a ROW of the WORLD."""
    if not is_row_within(thing, 1, MOST_DAYS):
        return False
    if not all([is_view(view, len(world)) for view in thing]):
        return False
    return all([is_finer_than(thing[at + 1], thing[at]) for at in range(len(thing) - 1)])


def sure_row(world, thing):
    """A plain copy of a ROW of the WORLD."""
    if not is_row_of(world, thing):
        raise BadRow(thing)
    return copied(thing)


def sure_rowed(world, row):
    """Plain copies of a WORLD and of a ROW of it."""
    world = sure_world(world)
    return (world, sure_row(world, row))


def paths_by(world, row):
    """The PATHS of all STATES, in turn."""
    days = [forecasts_by(world, view) for view in row]
    return list(zip(*days))


def fair_from(pairs):
    """The pairs of all unlike PATHS, ascending, each with the sum of its WEIGHTS."""
    weights = {}
    for path, weight in pairs:
        weights[path] = added(weights.get(path, NOUGHT), weight)
    return tuple([(path, weights[path]) for path in rows_in_order(list(weights))])


def need_row(world, thing):
    sure_row(sure_world(world), thing)
    return thing


def path_of(world, row, state):
    world, row = sure_rowed(world, row)
    state = sure_state(world, state)
    return paths_by(world, row)[state]


def fair_of(world, row):
    world, row = sure_rowed(world, row)
    paths = paths_by(world, row)
    return fair_from([(path, weight) for path, (weight, _) in zip(paths, world)])
