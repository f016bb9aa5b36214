"""BOOKS of QUOTES: FAIR SHARES that keep them, HEDGES, and means under them."""

from forehouse.errors import BadPaper, SureGain
from forehouse.exact import NOUGHT, is_under, taken
from forehouse.fairlines import rows_by
from forehouse.kinds import copied, is_row, word_of
from forehouse.known import fair_of_in, mean_of_claim, sure_claim, sure_fair_of, sure_known
from forehouse.limits import greatest_pair
from forehouse.quotes import hedge_costs, hedge_paid, is_hedge, is_kept, sure_book, sure_hedge

FORMS = (("fair", 2), ("gain", 2))


def sure_booked(known, book):
    """Plain copies of what is KNOWN, and of a BOOK on it."""
    known = sure_known(known)
    return (known, sure_book(known, book))


def sure_under(known, book, claim):
    """Likewise, with a CLAIM."""
    known, book = sure_booked(known, book)
    return (known, book, sure_claim(known, claim))


def some_pair(known, book):
    """A FAIR SHARE that keeps a BOOK, or None and a HEDGE that shows that there is none."""
    return greatest_pair(known, book, [0] * len(rows_by(known)))


def need_kept(pair):
    """Raises the error of a BOOK of which has come out that no FAIR SHARE keeps it."""
    fair, hedge = pair
    if fair is None:
        raise SureGain(("gain", hedge))


def kept_pair(known, book, claim):
    """A FAIR SHARE with the GREATEST MEAN under a BOOK, and a HEDGE that shows it."""
    pair = greatest_pair(known, book, claim)
    need_kept(pair)
    return pair


def need_book(known, thing):
    sure_book(sure_known(known), thing)
    return thing


def does_keep(known, fair, book):
    known = sure_known(known)
    fair = sure_fair_of(known, fair)
    book = sure_book(known, book)
    return is_kept(known, fair, book)


def hedge_pays(known, book, hedge):
    known, book = sure_booked(known, book)
    hedge = sure_hedge(known, book, hedge)
    return tuple(hedge_paid(known, book, hedge))


def hedge_cost(known, book, hedge):
    known, book = sure_booked(known, book)
    hedge = sure_hedge(known, book, hedge)
    return hedge_costs(known, book, hedge)


def book_paper(known, book):
    known, book = sure_booked(known, book)
    fair, hedge = some_pair(known, book)
    return ("gain", hedge) if fair is None else ("fair", fair)


def does_gain(known, book, thing):
    """Whether any thing is a HEDGE that nowhere PAYS less than nought, and COSTS less."""
    if not is_hedge(known, book, thing):
        return False
    hedge = copied(thing)
    if any([is_under(part, NOUGHT) for part in hedge_paid(known, book, hedge)]):
        return False
    return is_under(hedge_costs(known, book, hedge), NOUGHT)


def does_keep_it(known, book, thing):
    """Whether any thing is a FAIR SHARE that keeps the BOOK."""
    fair = fair_of_in(known, thing)
    return fair is not None and is_kept(known, fair, book)


def check_book(known, book, paper):
    known, book = sure_booked(known, book)
    word = word_of(paper, FORMS)
    if word is None:
        raise BadPaper("form")
    if word == "fair" and not does_keep_it(known, book, paper[1]):
        raise BadPaper("fair")
    if word == "gain" and not does_gain(known, book, paper[1]):
        raise BadPaper("gain")
    return word


def least_under(known, book, claim):
    known, book, claim = sure_under(known, book, claim)
    fair = kept_pair(known, book, [-part for part in claim])[0]
    return mean_of_claim(known, fair, claim)


def greatest_under(known, book, claim):
    known, book, claim = sure_under(known, book, claim)
    fair = kept_pair(known, book, claim)[0]
    return mean_of_claim(known, fair, claim)


def under_paper(known, book, claim):
    known, book, claim = sure_under(known, book, claim)
    return kept_pair(known, book, claim)


def check_under(known, book, claim, paper):
    known, book, claim = sure_under(known, book, claim)
    need_kept(some_pair(known, book))
    if not is_row(paper, 2):
        raise BadPaper("form")
    if not does_keep_it(known, book, paper[0]):
        raise BadPaper("fair")
    if not is_hedge(known, book, paper[1]):
        raise BadPaper("holding")
    fair, hedge = copied(paper)
    spare = [taken(paid, (part, 1)) for paid, part in zip(hedge_paid(known, book, hedge), claim)]
    if any([is_under(part, NOUGHT) for part in spare]):
        raise BadPaper("holding")
    mean = mean_of_claim(known, fair, claim)
    if hedge_costs(known, book, hedge) != mean:
        raise BadPaper("cost")
    return mean
