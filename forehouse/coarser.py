"""The VIEWS, and their SHARES, that come of putting CELLS together."""

from forehouse.cells import grouped, places, share_by
from forehouse.errors import TooMany
from forehouse.exact import rows_in_order
from forehouse.shares import sure_share
from forehouse.worlds import sure_view, sure_world

MOST_CELLS = 6


def labellings(many):
    """All ways to part so many things: for each thing the number of its part."""
    rows = [()]
    for _ in range(many):
        # A thing goes to a part that is there, or begins the next one.
        rows = [row + (part,) for row in rows for part in range(max(row, default=-1) + 2)]
    return rows


def need_few(view, most):
    """Raises the error of a VIEW with more CELLS."""
    if len(view) > most:
        raise TooMany(most)


def all_coarser(view):
    """All VIEWS than which it is finer, ascending."""
    cells = places(view)
    return sorted([grouped([row[cell] for cell in cells]) for row in labellings(len(view))])


def coarser_views(world, view):
    world = sure_world(world)
    view = sure_view(world, view)
    need_few(view, MOST_CELLS)
    return tuple(all_coarser(view))


def by_worth(shares):
    """Unlike SHARES in order, by what their FRACTIONS are worth, thing by thing."""
    rows = {tuple([part for pair in share for part in pair]): share for share in shares}
    return tuple([rows[row] for row in rows_in_order(list(rows))])


def coarser_shares(world, view):
    world = sure_world(world)
    view = sure_view(world, view)
    need_few(view, MOST_CELLS)
    return by_worth([share_by(world, coarse) for coarse in all_coarser(view)])


def coarser_with(world, view, share):
    world = sure_world(world)
    view = sure_view(world, view)
    share = sure_share(share)
    need_few(view, MOST_CELLS)
    for coarse in all_coarser(view):
        if share_by(world, coarse) == share:
            return coarse
    return None
