"""Whether one SHARE is WIDER than another one: their RESTS, and why it is not so."""

from forehouse.errors import NotWider
from forehouse.exact import added_up, excess, is_under, multiplied, unlike_in_order
from forehouse.shares import moment_of, numbers_of, total_of


def rest_of(share, mark):
    return added_up([multiplied(weight, excess(number, mark)) for number, weight in share])


def is_rest_less(one, other, mark):
    """Whether other has a lesser REST at the MARK than one."""
    return is_under(rest_of(other, mark), rest_of(one, mark))


def all_numbers(one, other):
    """The unlike NUMBERS of both SHARES, ascending."""
    return unlike_in_order(numbers_of(one) + numbers_of(other))


def unlike(one, other):
    """A PAPER that the TOTALS, or the MOMENTS, are unlike, None if they are alike."""
    if total_of(one) != total_of(other):
        return ("total",)
    if moment_of(one) != moment_of(other):
        return ("moment",)
    return None


def why_not_wider(one, other):
    """A PAPER that other is not WIDER than one, None if it is."""
    paper = unlike(one, other)
    if paper is not None:
        return paper
    # Both RESTS are straight between neighbouring NUMBERS, and alike beyond all.
    for mark in all_numbers(one, other):
        if is_rest_less(one, other, mark):
            return ("mark", mark)
    return None


def need_wider(one, other):
    paper = why_not_wider(one, other)
    if paper is not None:
        raise NotWider(paper)
