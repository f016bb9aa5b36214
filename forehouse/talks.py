"""TALKS: speakers tell their FORECASTS by turns, and all hear them."""

from forehouse.cells import forecasts_by, grouped, joined, places, whole
from forehouse.errors import BadNumber, BadPaper
from forehouse.kinds import is_place, is_same
from forehouse.trials import Trial, shortened
from forehouse.worlds import sure_state, sure_views, sure_world


def telling(world, view, public):
    """What a speaker with that VIEW tells, and PUBLIC behind it."""
    told = forecasts_by(world, joined((view, public)))
    return (told, grouped(list(zip(places(public), told))))


def does_rest(world, views, public):
    # PUBLIC never becomes coarser, so it changes only if it gets more CELLS.
    return all([len(telling(world, view, public)[1]) == len(public) for view in views])


def led_round(world, views):
    """The list of what is told in the ROUND TALK, and PUBLIC where it rests."""
    told = []
    public = whole(len(world))
    while not does_rest(world, views, public):
        now, public = telling(world, views[len(told) % len(views)], public)
        told.append(now)
    return (told, public)


def round_talk(world, views):
    world = sure_world(world)
    views = sure_views(world, views)
    return tuple(led_round(world, views)[0])


def last_public(world, views):
    world = sure_world(world)
    views = sure_views(world, views)
    return led_round(world, views)[1]


def check_talk(world, views, paper):
    world = sure_world(world)
    views = sure_views(world, views)
    if not isinstance(paper, tuple) or not all([isinstance(part, tuple) for part in paper]):
        raise BadPaper("form")
    told, public = led_round(world, views)
    for number, part in enumerate(paper):
        if number >= len(told) or not is_same(part, told[number]):
            raise BadPaper(number)
    if len(paper) < len(told):
        raise BadPaper(len(paper))
    return public


class Talk:
    """A TALK that is led."""

    def __init__(self, world, views):
        self._world = sure_world(world)
        self._views = sure_views(self._world, views)
        # A triple for each telling: its speaker, what was told, PUBLIC behind it.
        self._past = ()

    @property
    def world(self):
        return self._world

    @property
    def views(self):
        return self._views

    def tell(self, number):
        if not is_place(number, len(self._views)):
            raise BadNumber(number)
        told, public = telling(self._world, self._views[number], self.public())
        self._past = self._past + ((int(number), told, public),)
        return told

    def public(self):
        return self._past[-1][2] if self._past else whole(len(self._world))

    def rests(self):
        return does_rest(self._world, self._views, self.public())

    def heard(self, state):
        state = sure_state(self._world, state)
        return tuple([step[1][state] for step in self._past])

    def undo(self, many=1):
        self._past = shortened(self._past, many)

    def copy(self):
        other = Talk(self._world, self._views)
        other._past = self._past
        return other

    def trial(self):
        return Trial(self)

    def __len__(self):
        return len(self._past)

    def __eq__(self, other):
        if not isinstance(other, Talk):
            return False
        if self._world != other._world or self._views != other._views:
            return False
        return [step[0] for step in self._past] == [step[0] for step in other._past]


def under(manager, deed):
    with manager as one:
        return deed(one)
    return None
