"""SIDE PAPERS turned into HUBS, and HUBS into SIDE PAPERS."""

from forehouse.blurs import blur_of_table, table_of_blur
from forehouse.cells import forecasts_by, grouped
from forehouse.curtain import left_curtain
from forehouse.decisions import bend_between, decision_at
from forehouse.exact import NOUGHT, ONE, added
from forehouse.kinds import copied, word_of
from forehouse.looks import look_of_case
from forehouse.market import gain_of
from forehouse.moves import first_lesser
from forehouse.relation import unlike, why_not_wider
from forehouse.rests import FORMS, sure_hub
from forehouse.shares import moment_of, numbers_of, sure_share
from forehouse.sides import MARKED, list_of, need_cases, sure_paper, sure_side
from forehouse.tables import table_from
from forehouse.worths import lesser_mark


def summed_table(triples):
    """The TABLE of triples of X, Y and a weight from nought on, those of the same two together."""
    weights = {}
    for near, far, weight in triples:
        if weight != NOUGHT:
            weights[(near, far)] = added(weights.get((near, far), NOUGHT), weight)
    return table_from(weights)


def table_of_views(world, view, finer):
    """The TABLE of the pairs of FORECASTS of STATES."""
    weights = [weight for weight, _ in world]
    return summed_table(list(zip(forecasts_by(world, view), forecasts_by(world, finer), weights)))


def table_of_costs(one, other, rows):
    """The TABLE of what it costs to have 1 at each NUMBER of one and of other."""
    return summed_table([(near, far, part) for near, row in zip(numbers_of(one), rows)
                         for far, part in zip(numbers_of(other), row)])


def table_of_side(one, other, side, thing):
    """The TABLE that a THING which shows that other is WIDER is turned into."""
    if side == "table":
        return thing
    if side == "views":
        return table_of_views(thing[0], thing[1], thing[2])
    if side == "days":
        return summed_table([(path[0], path[1], weight) for path, weight in thing])
    if side == "market":
        return table_of_costs(one, other, thing)
    if side == "blur":
        return table_of_blur(look_of_case(other), look_of_case(one), thing, moment_of(one))
    # Lists show that there is a TABLE, but not which.
    return left_curtain(one, other)


def mark_of_side(one, other, side, thing):
    """A MARK at which other has a lesser REST, by what else than this shows it on a SIDE."""
    if side == "scores":
        return lesser_mark(thing, one, other)
    if side == "ladders":
        return first_lesser(thing[0], one, other)
    return bend_between(look_of_case(other), look_of_case(one), moment_of(one), thing)


def hub_by(one, other, parts):
    """The HUB that the three things of a SIDE PAPER that holds are turned into."""
    side, answer, given = parts
    thing = copied(given)
    if answer == "yes":
        return ("table", table_of_side(one, other, side, thing))
    if side == "market":
        # There is no GAIN where other is WIDER: so the NUMBERS of both have such a MARK.
        return why_not_wider(one, other)
    word = word_of(thing, FORMS)
    if word is None:
        return ("mark", mark_of_side(one, other, side, thing))
    return (word,) + thing[1:]


def shown_by(one, other, side, table):
    """What shows on a SIDE that other is WIDER, by a TABLE."""
    if side == "table":
        return table
    if side == "views":
        world = tuple([(weight, far) for _, far, weight in table])
        each = tuple([(state,) for state in range(len(table))])
        return (world, grouped([near for near, _, _ in table]), each)
    if side == "days":
        return tuple([((near, far), weight) for near, far, weight in table])
    if side == "market":
        costs = {(near, far): weight for near, far, weight in table}
        return tuple([tuple([costs.get((near, far), NOUGHT) for far in numbers_of(other)])
                      for near in numbers_of(one)])
    if side == "blur":
        return blur_of_table(table)
    return list_of(one, other, side)


def shown_at(side, mark):
    """What shows by a single MARK on a SIDE that wants more than this."""
    if side == "scores":
        return (("mark", mark, ONE),)
    if side == "ladders":
        return (((mark, ONE),), mark)
    return decision_at(mark)


def denied_by(one, other, side, hub):
    """What shows on a SIDE that other is not WIDER, by a HUB."""
    if side == "market":
        return gain_of(one, other, hub)
    if side in MARKED:
        return hub
    why = unlike(one, other)
    return shown_at(side, hub[1]) if why is None else why


def paper_by(one, other, side, hub):
    """The SIDE PAPER of a SIDE that a HUB is turned into."""
    if hub[0] == "table":
        return (side, "yes", shown_by(one, other, side, hub[1]))
    return (side, "no", denied_by(one, other, side, hub))


def hub_of(one, other, paper):
    one, other, parts = sure_paper(one, other, paper)
    return hub_by(one, other, parts)


def side_by(one, other, hub, side):
    near = sure_share(one)
    far = sure_share(other)
    side = sure_side(side)
    hub = sure_hub(near, far, hub)
    need_cases(one, other, side)
    return paper_by(near, far, side, hub)
