"""VIEWS and their means, of WORLDS and VIEWS that are known to be such."""

from forehouse.exact import NOUGHT, added, added_up, divided, in_order, multiplied


def whole(many):
    """The VIEW of so many STATES with one CELL."""
    return (tuple(range(many)),)


def grouped(keys):
    """The VIEW in which two STATES are in one CELL exactly if their keys are the same."""
    cells = {}
    for state, key in enumerate(keys):
        cells.setdefault(key, []).append(state)
    return tuple([tuple(cell) for cell in cells.values()])


def places(view):
    """For each STATE the number of the CELL that has it."""
    found = {state: at for at, cell in enumerate(view) for state in cell}
    return tuple([found[state] for state in range(len(found))])


def cell_with(view, state):
    return view[places(view)[state]]


def lies_within(lot, far):
    return all([state in far for state in lot])


def joined(views):
    rows = [places(view) for view in views]
    return grouped(list(zip(*rows)))


def reached(views, state):
    """The LOT of all STATES to which a row leads from this one."""
    found = {state: True}
    waiting = [state]
    while waiting:
        here = waiting.pop()
        for view in views:
            for there in cell_with(view, here):
                if there not in found:
                    found[there] = True
                    waiting.append(there)
    return tuple(sorted(found))


def met(views, many):
    cells = {}
    for state in range(many):
        if state not in cells:
            lot = reached(views, state)
            for there in lot:
                cells[there] = lot
    return grouped([cells[state] for state in range(many)])


def mean_in(world, cell, things):
    """The mean, by WEIGHTS, over a CELL of what things has for each STATE."""
    # What has the same is put together first: where it is long, few long sums are left.
    weights = {}
    for state in cell:
        weights.setdefault(things[state], []).append(world[state][0])
    sums = {thing: added_up(weights[thing]) for thing in weights}
    weight = added_up(list(sums.values()))
    weighed = added_up([multiplied(sums[thing], thing) for thing in sums])
    return divided(weighed, weight)


def worths(world):
    return tuple([state[1] for state in world])


def means_by(world, view, things):
    """For each STATE the mean over the CELL that has it."""
    means = [mean_in(world, cell, things) for cell in view]
    return tuple([means[at] for at in places(view)])


def forecasts_by(world, view):
    return means_by(world, view, worths(world))


def share_by(world, view):
    """The pairs of its SHARE, however many there are."""
    weights = {}
    for state, number in enumerate(forecasts_by(world, view)):
        weights[number] = added(weights.get(number, NOUGHT), world[state][0])
    return tuple([(number, weights[number]) for number in in_order(list(weights))])


def parted(view, other):
    """The first two STATES in one CELL of a VIEW, and in two of the other one, or None."""
    found = places(other)
    for cell in view:
        for state in cell[1:]:
            if found[state] != found[cell[0]]:
                return (cell[0], state)
    return None


def is_finer_than(view, other):
    return parted(view, other) is None
