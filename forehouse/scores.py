"""SCORES: PRICES at MARKS, and over stretches of MARKS."""

from forehouse.errors import BadBounds, BadScore
from forehouse.exact import NOUGHT, added, added_up, excess, half_square, in_order, is_under
from forehouse.exact import multiplied, taken, unlike_in_order
from forehouse.kinds import copied, is_called, is_fraction, is_price, is_row_within
from forehouse.ratios import sure_fraction

MOST_PIECES = 10


def is_piece(thing):
    if is_called(thing, "mark", 3):
        return is_fraction(thing[1]) and is_price(thing[2])
    if not is_called(thing, "stretch", 4):
        return False
    if not is_fraction(thing[1]) or not is_fraction(thing[2]) or not is_price(thing[3]):
        return False
    return is_under(thing[1], thing[2])


def is_score(thing):
    """Whether any thing is a SCORE."""
    return is_row_within(thing, 0, MOST_PIECES) and all([is_piece(piece) for piece in thing])


def sure_score(thing):
    """A plain copy of a SCORE."""
    if not is_row_within(thing, 0, MOST_PIECES):
        raise BadScore(None)
    for number, piece in enumerate(thing):
        if not is_piece(piece):
            raise BadScore(number)
    return copied(thing)


def need_score(thing):
    sure_score(thing)
    return thing


def marked(score):
    """For each MARK, ascending, one piece with all PRICES there, if there are any."""
    prices = {}
    for piece in score:
        if piece[0] == "mark":
            prices[piece[1]] = added(prices.get(piece[1], NOUGHT), piece[2])
    return [("mark", mark, prices[mark]) for mark in in_order(list(prices))
            if prices[mark] != NOUGHT]


def price_over(score, low, high):
    """The sum of the PRICES of all stretches that have the one from low to high."""
    return added_up([piece[3] for piece in score if piece[0] == "stretch"
                     and not is_under(low, piece[1]) and not is_under(piece[2], high)])


def stretched(score):
    """The pieces of PLAIN SCORES that are stretches."""
    ends = unlike_in_order([end for piece in score if piece[0] == "stretch" for end in piece[1:3]])
    out = []
    for at in range(len(ends) - 1):
        low, high = ends[at], ends[at + 1]
        price = price_over(score, low, high)
        if out and out[-1][2] == low and out[-1][3] == price:
            low = out.pop()[1]
        if price != NOUGHT:
            out.append(("stretch", low, high, price))
    return out


def plain_score(score):
    return tuple(marked(score) + stretched(score))


def plain(score):
    return plain_score(sure_score(score))


def are_like(score, far):
    score = sure_score(score)
    far = sure_score(far)
    return plain_score(score) == plain_score(far)


def squares(low, high):
    low = sure_fraction(low)
    high = sure_fraction(high)
    if not is_under(low, high):
        raise BadBounds((low, high))
    return (("stretch", low, high, (2, 1)),)


def piece_bend(piece, number):
    """What the number is more than each MARK of a piece, mixed by this piece alone."""
    if piece[0] == "mark":
        return multiplied(piece[2], excess(number, piece[1]))
    near = half_square(excess(number, piece[1]))
    far = half_square(excess(number, piece[2]))
    return multiplied(piece[3], taken(near, far))


def bend_by(score, number):
    return added_up([piece_bend(piece, number) for piece in score])


def bend_at(score, number):
    score = sure_score(score)
    number = sure_fraction(number)
    return bend_by(score, number)
