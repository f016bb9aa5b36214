"""HOUSES with LADDERS, and what EVEN DEALS with them gain."""

from forehouse.errors import BadDeals, BadHouses, BadPaper
from forehouse.exact import NOUGHT, added, added_up, contrary, excess, is_under, lesser
from forehouse.exact import multiplied, taken, unlike_in_order
from forehouse.kinds import copied, is_fraction, is_place, is_row, is_row_within, is_weight
from forehouse.ladders import is_ladder

MOST_HOUSES = 6


def is_house(thing):
    return is_row(thing, 2) and is_ladder(thing[0]) and is_fraction(thing[1])


def sure_houses(thing):
    """A plain copy of HOUSES."""
    if not is_row_within(thing, 1, MOST_HOUSES):
        raise BadHouses(None)
    for number, house in enumerate(thing):
        if not is_house(house):
            raise BadHouses(number)
    return copied(thing)


def need_houses(thing):
    sure_houses(thing)
    return thing


def offers(houses, are_asks):
    """All triples (MARK, HOUSE, PLACE) of ASKS, or of BIDS, ascending."""
    found = [(mark, number, place) for number, (ladder, report) in enumerate(houses)
             for place, (mark, _) in enumerate(ladder) if is_under(report, mark) == are_asks]
    marks = unlike_in_order([offer[0] for offer in found])
    return tuple([offer for mark in marks for offer in found if offer[0] == mark])


def bids(houses):
    return offers(sure_houses(houses), False)


def asks(houses):
    return offers(sure_houses(houses), True)


def units_at(houses, number, place):
    return houses[number][0][place][1]


def is_deal(houses, thing):
    if not is_row(thing, 3) or not is_place(thing[0], len(houses)):
        return False
    number, place, units = thing
    if not is_place(place, len(houses[number][0])) or not is_weight(units):
        return False
    return not is_under(units_at(houses, number, place), units)


def have_deals(houses, thing):
    """Whether any thing is DEALS."""
    if not isinstance(thing, tuple) or not all([is_deal(houses, deal) for deal in thing]):
        return False
    places = [deal[:2] for deal in thing]
    return all([places[at] < places[at + 1] for at in range(len(places) - 1)])


def are_deals(houses, value):
    return have_deals(sure_houses(houses), value)


def got(houses, deal):
    """How many units are got by a deal, below nought if they are given."""
    number, place, units = deal
    ladder, report = houses[number]
    return units if is_under(report, ladder[place][0]) else contrary(units)


def are_even(houses, thing):
    """Whether any thing is EVEN DEALS."""
    if not have_deals(houses, thing):
        return False
    return added_up([got(houses, deal) for deal in thing]) == NOUGHT


def gain_by(houses, deals):
    """What is got for units less what is paid for them."""
    return added_up([contrary(multiplied(got(houses, deal), houses[deal[0]][0][deal[1]][0]))
                     for deal in deals])


def best_deals(houses):
    """EVEN DEALS with the GREATEST GAIN: always the best ASK with the best BID that is left."""
    sellers = list(offers(houses, True))
    buyers = list(offers(houses, False))[::-1]
    left = {offer[1:]: units_at(houses, offer[1], offer[2]) for offer in sellers + buyers}
    done = {}
    while sellers and buyers and is_under(sellers[0][0], buyers[0][0]):
        pair = (sellers[0][1:], buyers[0][1:])
        units = lesser(left[pair[0]], left[pair[1]])
        for place in pair:
            left[place] = taken(left[place], units)
            done[place] = added(done.get(place, NOUGHT), units)
        sellers = [offer for offer in sellers if left[offer[1:]] != NOUGHT]
        buyers = [offer for offer in buyers if left[offer[1:]] != NOUGHT]
    return tuple([(place[0], place[1], done[place]) for place in sorted(done)])


def gain_at_price(houses, price):
    """What all BIDS above a price, and all ASKS below it, are apart from it, times UNITS."""
    parts = [multiplied(units_at(houses, number, place), excess(mark, price))
             for mark, number, place in offers(houses, False)]
    parts = parts + [multiplied(units_at(houses, number, place), excess(price, mark))
                     for mark, number, place in offers(houses, True)]
    return added_up(parts)


def best_price(houses, gain):
    """A price at which the BIDS above it and the ASKS below it have this GAIN, the greatest."""
    # That sum is straight between MARKS, so it is least at a MARK, where there is one.
    for mark in unlike_in_order([mark for ladder, _ in houses for mark, _ in ladder]):
        if gain_at_price(houses, mark) == gain:
            return mark
    return NOUGHT


def gain_of(houses, deals):
    houses = sure_houses(houses)
    if not are_even(houses, deals):
        raise BadDeals(deals)
    return gain_by(houses, copied(deals))


def greatest_gain(houses):
    houses = sure_houses(houses)
    return gain_by(houses, best_deals(houses))


def gain_paper(houses):
    houses = sure_houses(houses)
    deals = best_deals(houses)
    return (deals, best_price(houses, gain_by(houses, deals)))


def check_gain(houses, paper):
    houses = sure_houses(houses)
    if not is_row(paper, 2):
        raise BadPaper("form")
    if not are_even(houses, paper[0]):
        raise BadPaper("deals")
    if not is_fraction(paper[1]):
        raise BadPaper("price")
    deals, price = copied(paper)
    gain = gain_by(houses, deals)
    if gain != gain_at_price(houses, price):
        raise BadPaper("sum")
    return gain
