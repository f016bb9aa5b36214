"""What can stand between two SHARES, or two VIEWS."""

from forehouse.cells import grouped, is_finer_than, mean_in, places, share_by, worths
from forehouse.coarser import labellings, need_few
from forehouse.errors import BadView
from forehouse.exact import added_up
from forehouse.relation import why_not_wider
from forehouse.shares import numbers_of, sure_share
from forehouse.worlds import sure_view, sure_world

MOST_CELLS = 7


def can_be_between(one, share, other):
    one = sure_share(one)
    share = sure_share(share)
    other = sure_share(other)
    return why_not_wider(one, share) is None and why_not_wider(share, other) is None


def pooled(world, view):
    """The WORLD with a STATE for each CELL of a VIEW."""
    return tuple([(added_up([world[state][0] for state in cell]),
                   mean_in(world, cell, worths(world))) for cell in view])


def labellings_within(homes):
    """All ways to part so many things such that only those with the same home are together."""
    return [row for row in labellings(len(homes))
            if all([homes[at] == homes[row.index(part)] for at, part in enumerate(row)])]


def views_with(world, views, share):
    """The VIEWS with this SHARE."""
    numbers = numbers_of(share)
    # Far fewer CELLS than VIEWS: what no FORECAST can be is asked of each of them once.
    cells = {cell: True for view in views for cell in view}
    fits = {cell: mean_in(world, cell, worths(world)) in numbers for cell in cells}
    return [view for view in views
            if all([fits[cell] for cell in view]) and share_by(world, view) == share]


def spread_over(view, cells):
    """The VIEW of STATES, of each of which the number of its CELL is told."""
    numbers = places(view)
    return grouped([numbers[cell] for cell in cells])


def view_between(world, view, other, share):
    world = sure_world(world)
    view = sure_view(world, view)
    fine = sure_view(world, other)
    if not is_finer_than(fine, view):
        raise BadView(other)
    share = sure_share(share)
    need_few(fine, MOST_CELLS)
    homes = places(view)
    rows = labellings_within([homes[cell[0]] for cell in fine])
    found = views_with(pooled(world, fine), [grouped(row) for row in rows], share)
    return min([spread_over(small, places(fine)) for small in found]) if found else None
