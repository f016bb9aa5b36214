"""MOVES of the REPORT of a house with a LADDER, and what they earn."""

from forehouse.errors import BadBounds
from forehouse.exact import added_up, contrary, excess, greater, is_under, multiplied, taken
from forehouse.ladders import sure_ladder
from forehouse.ratios import sure_fraction
from forehouse.relation import is_rest_less, rest_of
from forehouse.shares import moment_of, sure_share, total_of


def passed(ladder, low, high):
    """The pairs with MARKS greater than low, and no greater than high."""
    return [rung for rung in ladder if is_under(low, rung[0]) and not is_under(high, rung[0])]


def position_of(ladder, report, later):
    if is_under(later, report):
        return contrary(position_of(ladder, later, report))
    return added_up([units for _, units in passed(ladder, report, later)])


def paid_of(ladder, report, later):
    if is_under(later, report):
        return contrary(paid_of(ladder, later, report))
    return added_up([multiplied(mark, units) for mark, units in passed(ladder, report, later)])


def sure_move(ladder, report, later):
    """Plain copies of a LADDER and of two FRACTIONS."""
    ladder = sure_ladder(ladder)
    report = sure_fraction(report)
    return (ladder, report, sure_fraction(later))


def position(ladder, report, later):
    ladder, report, later = sure_move(ladder, report, later)
    return position_of(ladder, report, later)


def paid(ladder, report, later):
    ladder, report, later = sure_move(ladder, report, later)
    return paid_of(ladder, report, later)


def earned_from(ladder, report, later, worth):
    """What a MOVE has EARNED at a worth."""
    got = multiplied(worth, position_of(ladder, report, later))
    return taken(got, paid_of(ladder, report, later))


def earned(ladder, report, later, worth):
    ladder, report, later = sure_move(ladder, report, later)
    worth = sure_fraction(worth)
    return earned_from(ladder, report, later, worth)


def line_of(ladder, report, worth):
    """The LOSS LINE at a worth."""
    out = []
    for mark, units in ladder:
        # Below the REPORT the house buys, so it loses where the worth is less.
        gap = excess(worth, mark) if is_under(report, mark) else excess(mark, worth)
        out.append(multiplied(units, gap))
    return added_up(out)


def loss_at(ladder, report, worth):
    ladder, report, worth = sure_move(ladder, report, worth)
    return line_of(ladder, report, worth)


def greatest_loss(ladder, report, low, high):
    ladder, report, low = sure_move(ladder, report, low)
    high = sure_fraction(high)
    if is_under(high, low):
        raise BadBounds((low, high))
    return greater(line_of(ladder, report, low), line_of(ladder, report, high))


def earned_by(ladder, report, share):
    """What a hand with a SHARE EARNS, if it moves the REPORT to its FORECAST."""
    out = []
    for mark, units in ladder:
        rest = rest_of(share, mark)
        if not is_under(report, mark):
            held = taken(moment_of(share), multiplied(mark, total_of(share)))
            rest = taken(rest, held)
        out.append(multiplied(units, rest))
    return added_up(out)


def first_lesser(ladder, one, other):
    """The least MARK of a LADDER at which other has a lesser REST than one, or None."""
    for mark, _ in ladder:
        if is_rest_less(one, other, mark):
            return mark
    return None


def earns(ladder, report, share):
    ladder = sure_ladder(ladder)
    report = sure_fraction(report)
    share = sure_share(share)
    return earned_by(ladder, report, share)


def mark_by(ladder, one, other):
    ladder = sure_ladder(ladder)
    one = sure_share(one)
    other = sure_share(other)
    return first_lesser(ladder, one, other)
