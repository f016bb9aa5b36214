"""CHAINS of VIEWS, and all LEVEL SHARES of a WORLD."""

from forehouse.cells import mean_in, share_by, worths
from forehouse.coarser import all_coarser, by_worth
from forehouse.errors import TooMany
from forehouse.exact import unlike_in_order
from forehouse.orders import sure_small
from forehouse.worlds import sure_view, sure_world

MOST_LISTED = 5


def chain_by(world, view):
    """The CHAIN of a VIEW."""
    means = {cell: mean_in(world, cell, worths(world)) for cell in view}
    chain = []
    for mean in unlike_in_order(list(means.values())):
        for cell in sorted([cell for cell in view if means[cell] == mean]):
            for worth in unlike_in_order([world[state][1] for state in cell])[::-1]:
                chain.extend([state for state in cell if world[state][1] == worth])
    return tuple(chain)


def sure_viewed(world, view):
    """Plain copies of a WORLD, small enough, and of a VIEW of it."""
    world = sure_small(world)
    return (world, sure_view(world, view))


def chain_of(world, view):
    world, view = sure_viewed(world, view)
    return chain_by(world, view)


def chain_ties(world, view):
    world, view = sure_viewed(world, view)
    chain = chain_by(world, view)
    return tuple(sorted([(chain[at], chain[at + 1]) for at in range(len(chain) - 1)]))


def listed_views(world):
    """All VIEWS of a WORLD, ascending."""
    if len(world) > MOST_LISTED:
        raise TooMany(MOST_LISTED)
    return all_coarser(tuple([(state,) for state in range(len(world))]))


def all_views(world):
    return tuple(listed_views(sure_world(world)))


def all_level_shares(world):
    world = sure_world(world)
    # The SHARES of LEVEL VIEWS, by any TIES, are just those of all VIEWS.
    return by_worth([share_by(world, view) for view in listed_views(world)])
