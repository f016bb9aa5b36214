"""RESTS of SHARES, and which SHARE is WIDER."""

from forehouse.curtain import left_curtain
from forehouse.errors import BadPaper
from forehouse.kinds import copied, is_fraction, word_of
from forehouse.ratios import sure_fraction
from forehouse.relation import is_rest_less, rest_of, why_not_wider
from forehouse.shares import moment_of, sure_share, total_of
from forehouse.tables import is_between

# Each word of a PAPER, and how many things the PAPER has.
FORMS = (("table", 2), ("total", 1), ("moment", 1), ("mark", 2))


def rest_at(share, mark):
    share = sure_share(share)
    mark = sure_fraction(mark)
    return rest_of(share, mark)


def is_wider(one, other):
    one = sure_share(one)
    other = sure_share(other)
    return why_not_wider(one, other) is None


def wider_hub(one, other):
    """A PAPER on whether other is WIDER than one."""
    paper = why_not_wider(one, other)
    if paper is None:
        return ("table", left_curtain(one, other))
    return paper


def wider_paper(one, other):
    one = sure_share(one)
    other = sure_share(other)
    return wider_hub(one, other)


def does_hold(one, other, word, paper):
    """Whether a PAPER with this word is as told."""
    if word == "total":
        return total_of(one) != total_of(other)
    if word == "moment":
        return moment_of(one) != moment_of(other)
    if word == "table":
        return is_between(one, other, paper[1])
    return is_fraction(paper[1]) and is_rest_less(one, other, copied(paper[1]))


def sure_hub(one, other, paper):
    """A plain copy of a PAPER on that, if it holds."""
    word = word_of(paper, FORMS)
    if word is None:
        raise BadPaper("form")
    if not does_hold(one, other, word, paper):
        raise BadPaper(word)
    return (word,) + copied(paper[1:])


def check_wider(one, other, paper):
    one = sure_share(one)
    other = sure_share(other)
    return sure_hub(one, other, paper)[0]
