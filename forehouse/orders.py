"""TIES of STATES, and their UP LOTS."""

from forehouse.errors import BadTies, TooMany
from forehouse.kinds import copied, is_place, is_row, is_row_within
from forehouse.worlds import sure_state, sure_world

MOST_ORDERED = 6
MOST_TIES = 15


def sure_small(thing):
    """A plain copy of a WORLD with few enough STATES to be put in order."""
    world = sure_world(thing)
    if len(world) > MOST_ORDERED:
        raise TooMany(MOST_ORDERED)
    return world


def all_above(many, ties):
    """For each STATE the LOT of all STATES to which a row of TIES leads from it."""
    out = []
    for state in range(many):
        found = {}
        waiting = [state]
        while waiting:
            here = waiting.pop()
            for low, high in ties:
                if low == here and high not in found:
                    found[high] = True
                    waiting.append(high)
        out.append(tuple(sorted(found)))
    return out


def is_tie(thing, many):
    if not is_row(thing, 2) or not is_place(thing[0], many) or not is_place(thing[1], many):
        return False
    return thing[0] != thing[1]


def has_ring(many, ties):
    return any([state in lot for state, lot in enumerate(all_above(many, ties))])


def are_ties(thing, many):
    if not is_row_within(thing, 0, MOST_TIES) or not all([is_tie(tie, many) for tie in thing]):
        return False
    ties = copied(thing)
    if not all([ties[at] < ties[at + 1] for at in range(len(ties) - 1)]):
        return False
    return not has_ring(many, ties)


def sure_ties(world, thing):
    """A plain copy of TIES of a WORLD."""
    if not are_ties(thing, len(world)):
        raise BadTies(thing)
    return copied(thing)


def is_up_lot(above, lot):
    """Whether a LOT has with each STATE all above it."""
    return all([high in lot for state in lot for high in above[state]])


def lots_up(many, ties):
    """The list of all UP LOTS, ascending."""
    lots = [()]
    for state in range(many):
        lots = lots + [lot + (state,) for lot in lots]
    above = all_above(many, ties)
    return sorted([lot for lot in lots if is_up_lot(above, lot)])


def pairs_below(many, ties):
    """All pairs of a STATE and one above it, ascending."""
    above = all_above(many, ties)
    return [(state, high) for state in range(many) for high in above[state]]


def sure_two(world, ties, far):
    """Plain copies of a WORLD, and of two TIES of it."""
    world = sure_small(world)
    ties = sure_ties(world, ties)
    return (world, ties, sure_ties(world, far))


def need_ties(world, thing):
    sure_ties(sure_small(world), thing)
    return thing


def is_below(world, ties, state, other):
    world = sure_small(world)
    ties = sure_ties(world, ties)
    state = sure_state(world, state)
    other = sure_state(world, other)
    return other in all_above(len(world), ties)[state]


def up_lots(world, ties):
    world = sure_small(world)
    ties = sure_ties(world, ties)
    return tuple(lots_up(len(world), ties))


def are_within(world, ties, far):
    world, ties, far = sure_two(world, ties, far)
    known = pairs_below(len(world), far)
    return all([pair in known for pair in pairs_below(len(world), ties)])


def common_ties(world, ties, far):
    world, ties, far = sure_two(world, ties, far)
    known = pairs_below(len(world), far)
    return tuple([pair for pair in pairs_below(len(world), ties) if pair in known])


def put_ties(world, ties, far):
    world, ties, far = sure_two(world, ties, far)
    both = tuple(sorted({tie: True for tie in ties + far}))
    return None if has_ring(len(world), both) else both
