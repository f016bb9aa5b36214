"""OWN VIEWS of ROWS."""

from forehouse.cells import grouped
from forehouse.dayviews import paths_by, sure_rowed


def views_of_paths(paths):
    """For each day the VIEW in which PATHS that are alike up to it are in one CELL."""
    return tuple([grouped([path[:many + 1] for path in paths]) for many in range(len(paths[0]))])


def own_views(world, row):
    world, row = sure_rowed(world, row)
    return views_of_paths(paths_by(world, row))


def is_own(world, row):
    world, row = sure_rowed(world, row)
    return views_of_paths(paths_by(world, row)) == row
