"""A HOUSE that is led: hands with VIEWS tell or say, and it moves its REPORTS."""

from forehouse.cells import forecasts_by, grouped, joined, places, whole
from forehouse.errors import BadHand, BadSaid
from forehouse.exact import added_up, divided, summed_products
from forehouse.kinds import are_fractions, copied, is_place
from forehouse.ladders import sure_ladder
from forehouse.moves import earned_from
from forehouse.ratios import sure_fraction
from forehouse.trials import Trial, shortened
from forehouse.worlds import sure_views, sure_world


def sums_by_state(rows, many):
    """For each of so many STATES the sum of what all rows have there."""
    return tuple([added_up([row[state] for row in rows]) for state in range(many)])


class House:
    """A HOUSE that is led."""

    def __init__(self, world, views, ladder, first):
        self._world = sure_world(world)
        self._views = sure_views(self._world, views)
        self._ladder = sure_ladder(ladder)
        self._first = sure_fraction(first)
        # For each deed: its hand, what it said (None if it told), the REPORTS and PUBLIC behind
        # it, and what it EARNED.
        self._past = ()

    @property
    def world(self):
        return self._world

    @property
    def views(self):
        return self._views

    @property
    def ladder(self):
        return self._ladder

    @property
    def first(self):
        return self._first

    def _sure_hand(self, number):
        """A plain copy of the number of a hand."""
        if not is_place(number, len(self._views)):
            raise BadHand(number)
        return int(number)

    def _known_to(self, hand):
        """The JOIN of the VIEW of a hand and PUBLIC."""
        return joined((self._views[hand], self.public()))

    def _moved(self, hand, said, later):
        """Does a deed behind which the REPORTS are these, and returns what it EARNS."""
        rows = list(zip(self._world, self.reports(), later))
        earned = tuple([earned_from(self._ladder, report, report_later, state[1])
                        for state, report, report_later in rows])
        public = grouped(list(zip(places(self.public()), later)))
        self._past = self._past + ((hand, said, later, public, earned),)
        return earned

    def _earned_by(self, hand):
        """What all deeds of a hand together have EARNED at the STATES."""
        rows = [deed[4] for deed in self._past if deed[0] == hand]
        return sums_by_state(rows, len(self._world))

    def tell(self, number):
        hand = self._sure_hand(number)
        return self._moved(hand, None, forecasts_by(self._world, self._known_to(hand)))

    def say(self, number, said):
        hand = self._sure_hand(number)
        if not are_fractions(said, len(self._world)):
            raise BadSaid(said)
        later = copied(said)
        for cell in self._known_to(hand):
            if any([later[state] != later[cell[0]] for state in cell]):
                raise BadSaid(said)
        return self._moved(hand, later, later)

    def reports(self):
        return self._past[-1][2] if self._past else tuple([self._first for _ in self._world])

    def public(self):
        return self._past[-1][3] if self._past else whole(len(self._world))

    def earned(self, number):
        return self._earned_by(self._sure_hand(number))

    def mean_of_hand(self, number):
        earned = self._earned_by(self._sure_hand(number))
        weights = [weight for weight, _ in self._world]
        return divided(summed_products(weights, earned), added_up(weights))

    def paid_out(self):
        return sums_by_state([deed[4] for deed in self._past], len(self._world))

    def told_next(self, number):
        return forecasts_by(self._world, self._known_to(self._sure_hand(number)))

    def undo(self, many=1):
        self._past = shortened(self._past, many)

    def copy(self):
        other = House(self._world, self._views, self._ladder, self._first)
        other._past = self._past
        return other

    def trial(self):
        return Trial(self)

    def __len__(self):
        return len(self._past)

    def __eq__(self, other):
        if not isinstance(other, House):
            return False
        if self._world != other._world or self._views != other._views:
            return False
        if self._ladder != other._ladder or self._first != other._first:
            return False
        return [deed[:2] for deed in self._past] == [deed[:2] for deed in other._past]


def under(manager, deed):
    with manager as one:
        return deed(one)
    return None
