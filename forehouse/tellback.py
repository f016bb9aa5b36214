"""The WORLD and the ROW of a FAIR SHARE."""

from forehouse.fairshares import sure_fair
from forehouse.ownviews import views_of_paths


def world_of(fair):
    return tuple([(weight, path[-1]) for path, weight in sure_fair(fair)])


def row_of(fair):
    return views_of_paths([path for path, _ in sure_fair(fair)])
