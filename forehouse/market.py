"""GAINS in the market of all claims "above"."""

from forehouse.errors import BadGain, BadPaper
from forehouse.exact import NOUGHT, ONE, contrary, excess, is_under
from forehouse.kinds import are_fractions, copied, is_row, word_of
from forehouse.ratios import sure_fraction
from forehouse.relation import why_not_wider
from forehouse.rests import FORMS, does_hold
from forehouse.rewards import prices_sum, together
from forehouse.shares import moment_of, numbers_of, sure_share, total_of

LESS_ONE = (-1, 1)


def has_gain(one, other, thing):
    """Whether any thing is a GAIN on two SHARES."""
    if not is_row(thing, 3):
        return False
    lengths = (len(one), len(other), len(one))
    if not all([are_fractions(part, many) for part, many in zip(thing, lengths)]):
        return False
    prices = copied(thing)
    if any([is_under(part, NOUGHT) for part in together(one, other, prices)]):
        return False
    return is_under(prices_sum(one, other, prices), NOUGHT)


def above_by(share, mark):
    return tuple([excess(number, mark) for number in numbers_of(share)])


def contraries(some):
    return tuple([contrary(part) for part in some])


def same_for(share, part):
    return tuple([part for _ in share])


def sold_above(share, mark):
    """For each pair of a SHARE -1, if its NUMBER is greater than the MARK, else nought."""
    return tuple([LESS_ONE if is_under(mark, number) else NOUGHT for number in numbers_of(share)])


def gain_at_mark(one, other, mark):
    """The GAIN where other has a lesser REST at the MARK."""
    return (contraries(above_by(one, mark)), above_by(other, mark), sold_above(one, mark))


def gain_of_totals(one, other):
    """The GAIN where the TOTALS are unlike: one unit of each NUMBER for one of each other."""
    more = LESS_ONE if is_under(total_of(other), total_of(one)) else ONE
    return (same_for(one, more), same_for(other, contrary(more)), same_for(one, NOUGHT))


def gain_of_moments(one, other):
    """The GAIN where the MOMENTS are unlike: what comes for what came, whichever costs less."""
    if is_under(moment_of(other), moment_of(one)):
        return (contraries(numbers_of(one)), numbers_of(other), same_for(one, LESS_ONE))
    return (numbers_of(one), contraries(numbers_of(other)), same_for(one, ONE))


def gain_of(one, other, paper):
    """The GAIN that comes of a PAPER that other is not WIDER."""
    if paper[0] == "total":
        return gain_of_totals(one, other)
    if paper[0] == "moment":
        return gain_of_moments(one, other)
    return gain_at_mark(one, other, paper[1])


def is_gain(one, other, value):
    one = sure_share(one)
    other = sure_share(other)
    return has_gain(one, other, value)


def gain_by(one, other, paper):
    one = sure_share(one)
    other = sure_share(other)
    word = word_of(paper, FORMS)
    if word is None or word == "table":
        raise BadPaper("form")
    if not does_hold(one, other, word, paper):
        raise BadPaper(word)
    return gain_of(one, other, copied(paper))


def paper_by(one, other, gain):
    one = sure_share(one)
    other = sure_share(other)
    if not has_gain(one, other, gain):
        raise BadGain(gain)
    # Where there is a GAIN, other is not WIDER: so something of this is there.
    return why_not_wider(one, other)


def above(share, mark):
    share = sure_share(share)
    mark = sure_fraction(mark)
    return above_by(share, mark)
