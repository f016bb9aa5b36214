"""WAYS of VIEWS: from STATE to STATE, each two neighbours in one CELL of some VIEW."""

from forehouse.cells import places
from forehouse.kinds import is_place, is_row_within
from forehouse.worlds import MOST_STATES


def next_states(views, state, found):
    """All STATES one step on that were not found yet, each with the number of its VIEW."""
    out = {}
    for number, view in enumerate(views):
        near = places(view)
        for there in view[near[state]]:
            if there not in found and there not in out:
                out[there] = number
    return out


def way_back(came, end):
    """The WAY to an end, made of the STATE and VIEW by which each STATE was found."""
    states = [end]
    numbers = []
    while came[states[-1]] is not None:
        before, number = came[states[-1]]
        states.append(before)
        numbers.append(number)
    return (tuple(states[::-1]), tuple(numbers[::-1]))


def shortest_way(views, start, goals):
    """A WAY with as few NUMBERS as any from start to one of the goals, or None."""
    came = {start: None}
    row = [start]
    while row:
        for state in row:
            if state in goals:
                return way_back(came, state)
        later = []
        for state in row:
            found = next_states(views, state, came)
            for there in found:
                came[there] = (state, found[there])
                later.append(there)
        row = later
    return None


def is_way(views, many, states, numbers):
    """Whether these two things of any kind are a WAY of VIEWS of so many STATES."""
    if not is_row_within(states, 1, MOST_STATES) or not isinstance(numbers, tuple):
        return False
    if not all([is_place(state, many) for state in states]):
        return False
    if not all([is_place(number, len(views)) for number in numbers]):
        return False
    if len(numbers) != len(states) - 1 or len({state: True for state in states}) != len(states):
        return False
    cells = [places(view) for view in views]
    return all([cells[number][states[at]] == cells[number][states[at + 1]]
                for at, number in enumerate(numbers)])
