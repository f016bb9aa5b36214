"""REWARDS of two times, and the VALUES that TABLES give them."""

from forehouse.errors import BadPaper, BadReward, BadTable
from forehouse.exact import added, added_up, divided, is_under, multiplied, summed_products, taken
from forehouse.extremes import greatest_four, least_four
from forehouse.kinds import are_fractions, copied, is_integer, is_row
from forehouse.relation import need_wider
from forehouse.shares import numbers_of, sure_share, weights_of
from forehouse.tables import is_between, sure_table

MOST_PAID = 1000


def is_paid(thing):
    return is_integer(thing) and -MOST_PAID <= thing <= MOST_PAID


def is_reward(one, other, thing):
    """Whether any thing is a REWARD for two SHARES."""
    if not is_row(thing, len(one)) or not all([is_row(row, len(other)) for row in thing]):
        return False
    return all([is_paid(paid) for row in thing for paid in row])


def sure_reward(one, other, thing):
    """A plain copy of a REWARD for two SHARES."""
    if not is_reward(one, other, thing):
        raise BadReward(thing)
    return copied(thing)


def value_by(one, other, reward, table):
    paid = {}
    for at, near in enumerate(numbers_of(one)):
        for to, far in enumerate(numbers_of(other)):
            paid[(near, far)] = (reward[at][to], 1)
    return added_up([multiplied(weight, paid[(near, far)]) for near, far, weight in table])


def sure_three(one, other, reward):
    """Plain copies of two SHARES and a REWARD for them."""
    one = sure_share(one)
    other = sure_share(other)
    return (one, other, sure_reward(one, other, reward))


def sure_wide(one, other, reward):
    """Likewise, the second SHARE being WIDER."""
    three = sure_three(one, other, reward)
    need_wider(three[0], three[1])
    return three


def value_of(one, other, reward, table):
    one, other, reward = sure_three(one, other, reward)
    steps = sure_table(table)
    if not is_between(one, other, steps):
        raise BadTable(table)
    return value_by(one, other, reward, steps)


def least_paper(one, other, reward):
    one, other, reward = sure_wide(one, other, reward)
    return least_four(one, other, reward)


def greatest_paper(one, other, reward):
    one, other, reward = sure_wide(one, other, reward)
    return greatest_four(one, other, reward)


def least_value(one, other, reward):
    one, other, reward = sure_wide(one, other, reward)
    return value_by(one, other, reward, least_four(one, other, reward)[0])


def greatest_value(one, other, reward):
    one, other, reward = sure_wide(one, other, reward)
    return value_by(one, other, reward, greatest_four(one, other, reward)[0])


def need_prices(one, other, paper):
    """Raises the error of a PAPER whose form, TABLE or prices are not as told."""
    if not is_row(paper, 4):
        raise BadPaper("form")
    if not is_between(one, other, paper[0]):
        raise BadPaper("table")
    lengths = (len(one), len(other), len(one))
    if not all([are_fractions(part, many) for part, many in zip(paper[1:], lengths)]):
        raise BadPaper("prices")


def together(one, other, prices):
    """The list of what the prices U, V and H are together at each X and Y."""
    near, far, drift = prices
    out = []
    for at, number in enumerate(numbers_of(one)):
        for to, later in enumerate(numbers_of(other)):
            moved = multiplied(drift[at], taken(later, number))
            out.append(added(added(near[at], far[to]), moved))
    return out


def prices_sum(one, other, prices):
    """The sum of all WEIGHTS times U and V."""
    return added(summed_products(weights_of(one), prices[0]),
                 summed_products(weights_of(other), prices[1]))


def checked(one, other, reward, paper, side):
    """The VALUE by a PAPER whose prices are on one side of what is paid: 1 below, -1 above."""
    one, other, reward = sure_wide(one, other, reward)
    need_prices(one, other, paper)
    table, *prices = copied(paper)
    paid = [(part, 1) for row in reward for part in row]
    spare = [taken(part, asked) for part, asked in zip(paid, together(one, other, prices))]
    if any([part[0] * side < 0 for part in spare]):
        raise BadPaper("bound")
    value = value_by(one, other, reward, table)
    if prices_sum(one, other, prices) != value:
        raise BadPaper("sum")
    return value


def check_least(one, other, reward, paper):
    return checked(one, other, reward, paper, 1)


def check_greatest(one, other, reward, paper):
    return checked(one, other, reward, paper, -1)


def slopes(numbers, rises):
    """What the RISE grows by, divided by what the NUMBER grows by, for all neighbours."""
    return [divided((rises[at + 1] - rises[at], 1), taken(numbers[at + 1], numbers[at]))
            for at in range(len(rises) - 1)]


def bend_of(one, other, reward):
    one, other, reward = sure_three(one, other, reward)
    down = up = True
    for at in range(len(reward) - 1):
        rises = [later - paid for paid, later in zip(reward[at], reward[at + 1])]
        grown = slopes(numbers_of(other), rises)
        for to in range(len(grown) - 1):
            down = down and not is_under(grown[to], grown[to + 1])
            up = up and not is_under(grown[to + 1], grown[to])
    if down and up:
        return "straight"
    if down or up:
        return "down" if down else "up"
    return None
