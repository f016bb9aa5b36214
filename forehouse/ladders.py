"""LADDERS: what is on offer at each MARK."""

from forehouse.errors import BadLadder
from forehouse.exact import is_under
from forehouse.kinds import copied, is_fraction, is_row, is_row_within, is_weight
from forehouse.scores import plain_score, sure_score

MOST_RUNGS = 10


def is_rung(thing):
    return is_row(thing, 2) and is_fraction(thing[0]) and is_weight(thing[1])


def wrong_rung(thing):
    """The number of the first thing that is no pair, or not above the one ahead, or None."""
    for number, rung in enumerate(thing):
        if not is_rung(rung):
            return number
        if number > 0 and not is_under(thing[number - 1][0], rung[0]):
            return number
    return None


def is_ladder(thing):
    return is_row_within(thing, 0, MOST_RUNGS) and wrong_rung(thing) is None


def sure_ladder(thing):
    """A plain copy of a LADDER."""
    if not is_row_within(thing, 0, MOST_RUNGS):
        raise BadLadder(None)
    number = wrong_rung(thing)
    if number is not None:
        raise BadLadder(number)
    return copied(thing)


def need_ladder(thing):
    sure_ladder(thing)
    return thing


def as_score(ladder):
    return tuple([("mark", mark, units) for mark, units in sure_ladder(ladder)])


def ladder_of(score):
    pieces = plain_score(sure_score(score))
    if any([piece[0] == "stretch" for piece in pieces]):
        return None
    return tuple([(piece[1], piece[2]) for piece in pieces])
