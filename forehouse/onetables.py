"""BEST GUESSES of STATES with TIES, and the LEVEL VIEW."""

from forehouse.cells import forecasts_by, grouped, mean_in, share_by, worths
from forehouse.errors import BadPaper
from forehouse.exact import added_up, is_under, multiplied, taken
from forehouse.kinds import copied, is_called, is_fraction
from forehouse.orders import all_above, is_up_lot, lots_up, sure_small, sure_ties
from forehouse.ratios import sure_fraction
from forehouse.relation import all_numbers, is_rest_less
from forehouse.tellers import sure_guesses
from forehouse.worlds import is_lot, sure_event, sure_view


def first_fall(above, guesses):
    """The first STATE, and one above it, with a greater GUESS than this, or None."""
    for state, highs in enumerate(above):
        for high in highs:
            if is_under(guesses[high], guesses[state]):
                return (state, high)
    return None


def rise_by(above, guesses):
    return first_fall(above, guesses) is None


def next_step(world, lots, done):
    """The STATES of some UP LOT, but those that are done, with the greatest mean; this mean."""
    best = None
    for lot in lots:
        step = tuple([state for state in lot if state not in done])
        if step:
            mean = mean_in(world, step, worths(world))
            if best is None or is_under(best[1], mean):
                best = (step, mean)
    return best


def best_by(world, ties):
    """The BEST GUESSES, from the greatest one down."""
    lots = lots_up(len(world), ties)
    guesses = {}
    while len(guesses) < len(world):
        step, mean = next_step(world, lots, list(guesses))
        for state in step:
            guesses[state] = mean
    return tuple([guesses[state] for state in range(len(world))])


def gain_by(world, mark, lot):
    """The GAIN of a LOT at a MARK."""
    return added_up([multiplied(world[state][0], taken(world[state][1], mark)) for state in lot])


def lot_from(guesses, mark):
    """The LOT of all STATES whose GUESSES are no less than the MARK."""
    return tuple([state for state, guess in enumerate(guesses) if not is_under(guess, mark)])


def parted_by(many, lot):
    """The VIEW of a CELL and of all other STATES."""
    return grouped([state in lot for state in range(many)])


def level_by(world, ties):
    return grouped(best_by(world, ties))


def sure_tied(world, ties):
    """Plain copies of a WORLD and of TIES of it."""
    world = sure_small(world)
    return (world, sure_ties(world, ties))


def do_rise(world, ties, guesses):
    world, ties = sure_tied(world, ties)
    guesses = sure_guesses(world, guesses)
    return rise_by(all_above(len(world), ties), guesses)


def best_guesses(world, ties):
    world, ties = sure_tied(world, ties)
    return best_by(world, ties)


def gain_at(world, mark, lot):
    world = sure_small(world)
    mark = sure_fraction(mark)
    lot = sure_event(world, lot)
    return gain_by(world, mark, lot)


def best_lot(world, ties, mark):
    world, ties = sure_tied(world, ties)
    mark = sure_fraction(mark)
    return lot_from(best_by(world, ties), mark)


def does_rise(world, ties, view):
    """Whether a VIEW rises."""
    return rise_by(all_above(len(world), ties), forecasts_by(world, view))


def does_view_rise(world, ties, view):
    world, ties = sure_tied(world, ties)
    view = sure_view(world, view)
    return does_rise(world, ties, view)


def level_view(world, ties):
    world, ties = sure_tied(world, ties)
    return level_by(world, ties)


def level_paper(world, ties, view):
    world, ties = sure_tied(world, ties)
    view = sure_view(world, view)
    if not does_rise(world, ties, view):
        return None
    share = share_by(world, view)
    level = share_by(world, level_by(world, ties))
    for mark in all_numbers(share, level):
        if is_rest_less(level, share, mark):
            return ("mark", mark, lot_from(best_by(world, ties), mark))
    return ("level",)


def does_show(world, ties, view, mark, lot):
    """Whether any two things show that a VIEW that rises has not the WIDEST SHARE."""
    if not is_fraction(mark) or not is_lot(lot, len(world)):
        return False
    if len(lot) in (0, len(world)) or not is_up_lot(all_above(len(world), ties), lot):
        return False
    parting = parted_by(len(world), lot)
    if not does_rise(world, ties, parting):
        return False
    return is_rest_less(share_by(world, parting), share_by(world, view), copied(mark))


def check_level(world, ties, view, paper):
    world, ties = sure_tied(world, ties)
    view = sure_view(world, view)
    rises = does_rise(world, ties, view)
    if is_called(paper, "level", 1):
        if not rises or share_by(world, view) != share_by(world, level_by(world, ties)):
            raise BadPaper("level")
        return "level"
    if not is_called(paper, "mark", 3):
        raise BadPaper("form")
    if not rises or not does_show(world, ties, view, paper[1], paper[2]):
        raise BadPaper("mark")
    return "mark"
