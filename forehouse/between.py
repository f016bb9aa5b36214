"""What can stand between two SHARES, or two VIEWS."""

from forehouse.cells import grouped, is_finer_than, mean_in, places, share_by, worths
from forehouse.coarser import labellings, need_few
from forehouse.errors import BadView
from forehouse.exact import added_up
from forehouse.relation import why_not_wider
from forehouse.shares import sure_share
from forehouse.worlds import sure_view, sure_world

MOST_CELLS = 7


def can_be_between(one, share, other):
    one = sure_share(one)
    share = sure_share(share)
    other = sure_share(other)
    return why_not_wider(one, share) is None and why_not_wider(share, other) is None


def pooled(world, view):
    """The WORLD with a STATE for each CELL of a VIEW."""
    return tuple([(added_up([world[state][0] for state in cell]),
                   mean_in(world, cell, worths(world))) for cell in view])


def labellings_within(homes):
    """All ways to part so many things such that only those with the same home are together."""
    return [row for row in labellings(len(homes))
            if all([homes[at] == homes[row.index(part)] for at, part in enumerate(row)])]


def view_between(world, view, other, share):
    world = sure_world(world)
    view = sure_view(world, view)
    fine = sure_view(world, other)
    if not is_finer_than(fine, view):
        raise BadView(other)
    share = sure_share(share)
    need_few(fine, MOST_CELLS)
    small = pooled(world, fine)
    homes = [places(view)[cell[0]] for cell in fine]
    cells = places(fine)
    found = [grouped([row[cell] for cell in cells]) for row in labellings_within(homes)
             if share_by(small, grouped(row)) == share]
    return min(found) if found else None
