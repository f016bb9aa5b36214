"""The LEAST and the GREATEST MEAN of a CLAIM, and the papers on them."""

from forehouse.errors import BadPaper
from forehouse.exact import contrary, taken
from forehouse.holdings import cost_by, is_holding, paid_by
from forehouse.kinds import copied, is_row
from forehouse.known import fair_of_in, mean_of_claim, sure_claim, sure_known
from forehouse.limits import greatest_pair


def sure_claimed(known, claim):
    """Plain copies of what is KNOWN, and of a CLAIM on it."""
    known = sure_known(known)
    return (known, sure_claim(known, claim))


def greatest_of_claim(known, claim):
    """The PAPER on the GREATEST MEAN."""
    fair, hedge = greatest_pair(known, (), claim)
    return (fair, hedge[0])


def contrary_holding(holding):
    held, deals = holding
    return (tuple([tuple([contrary(part) for part in parts]) for parts in held]),
            tuple([contrary(part) for part in deals]))


def least_of_claim(known, claim):
    """The PAPER on the LEAST MEAN."""
    fair, holding = greatest_of_claim(known, [-part for part in claim])
    return (fair, contrary_holding(holding))


def least_means_paper(known, claim):
    known, claim = sure_claimed(known, claim)
    return least_of_claim(known, claim)


def greatest_means_paper(known, claim):
    known, claim = sure_claimed(known, claim)
    return greatest_of_claim(known, claim)


def least_mean(known, claim):
    known, claim = sure_claimed(known, claim)
    return mean_of_claim(known, least_of_claim(known, claim)[0], claim)


def greatest_mean(known, claim):
    known, claim = sure_claimed(known, claim)
    return mean_of_claim(known, greatest_of_claim(known, claim)[0], claim)


def checked(known, claim, paper, side):
    """The MEAN by a PAPER whose HOLDING pays on one side of the CLAIM: 1 no less, -1 no more."""
    known, claim = sure_claimed(known, claim)
    if not is_row(paper, 2):
        raise BadPaper("form")
    fair = fair_of_in(known, paper[0])
    if fair is None:
        raise BadPaper("fair")
    if not is_holding(known, paper[1]):
        raise BadPaper("holding")
    holding = copied(paper[1])
    spare = [taken(paid, (part, 1)) for paid, part in zip(paid_by(known, holding), claim)]
    if any([part[0] * side < 0 for part in spare]):
        raise BadPaper("holding")
    mean = mean_of_claim(known, fair, claim)
    if cost_by(known, holding) != mean:
        raise BadPaper("cost")
    return mean


def check_least_mean(known, claim, paper):
    return checked(known, claim, paper, -1)


def check_greatest_mean(known, claim, paper):
    return checked(known, claim, paper, 1)
