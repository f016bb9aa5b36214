"""What VIEWS know of an EVENT, and know that the others know."""

from forehouse.cells import cell_with, lies_within, met
from forehouse.errors import BadNumber, BadPaper
from forehouse.kinds import is_called, is_integer, is_same
from forehouse.ways import is_way, shortest_way
from forehouse.worlds import sure_event, sure_state, sure_view, sure_views, sure_world


def knows_at(view, event, state):
    return lies_within(cell_with(view, state), event)


def does_know(world, view, event, state):
    world = sure_world(world)
    view = sure_view(world, view)
    event = sure_event(world, event)
    state = sure_state(world, state)
    return knows_at(view, event, state)


def known_once(views, event, many):
    """The LOT of all STATES at which each of the VIEWS knows it."""
    return tuple([state for state in range(many)
                  if all([knows_at(view, event, state) for view in views])])


def sure_known(world, views, event):
    """Plain copies of a WORLD, and of VIEWS and an EVENT of it."""
    world = sure_world(world)
    views = sure_views(world, views)
    return (world, views, sure_event(world, event))


def known_times(world, views, event, times):
    world, views, event = sure_known(world, views, event)
    if not is_integer(times) or times < 0:
        raise BadNumber(times)
    # Each time loses a STATE or is the last one that changes anything.
    for _ in range(min([int(times), len(world)])):
        event = known_once(views, event, len(world))
    return event


def common_of(views, event, many):
    return tuple([state for cell in met(views, many) if lies_within(cell, event)
                  for state in cell])


def common(world, views, event):
    world, views, event = sure_known(world, views, event)
    return tuple(sorted(common_of(views, event, len(world))))


def way_out(views, event, many, state):
    """A shortest WAY to a STATE that is not of the EVENT, or None."""
    goals = [there for there in range(many) if there not in event]
    return shortest_way(views, state, goals)


def depth(world, views, event, state):
    world, views, event = sure_known(world, views, event)
    state = sure_state(world, state)
    way = way_out(views, event, len(world), state)
    return None if way is None else len(way[1])


def common_paper(world, views, event, state):
    world, views, event = sure_known(world, views, event)
    state = sure_state(world, state)
    way = way_out(views, event, len(world), state)
    if way is None:
        return ("common", cell_with(met(views, len(world)), state))
    return ("way", way[0], way[1])


def check_common(world, views, event, state, paper):
    world, views, event = sure_known(world, views, event)
    state = sure_state(world, state)
    if is_called(paper, "common", 2):
        cell = cell_with(met(views, len(world)), state)
        if not is_same(paper[1], cell) or not lies_within(cell, event):
            raise BadPaper("common")
        return "common"
    if not is_called(paper, "way", 3):
        raise BadPaper("form")
    if not is_way_out(views, event, len(world), state, paper):
        raise BadPaper("way")
    return "way"


def is_way_out(views, event, many, state, paper):
    """Whether the paper has a WAY out of the EVENT, as short as any."""
    _, states, numbers = paper
    if not is_way(views, many, states, numbers):
        return False
    if states[0] != state or states[-1] in event:
        return False
    return len(numbers) == len(way_out(views, event, many, state)[1])
