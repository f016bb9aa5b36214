"""FLOWS between STATES with the same GUESS, and what shows that GUESSES are not the BEST."""

from forehouse.errors import BadPaper
from forehouse.exact import HALF, NOUGHT, ONE, added, is_under, multiplied, taken
from forehouse.exact import unlike_in_order
from forehouse.kinds import copied, is_fraction, is_place, is_row, is_weight, word_of
from forehouse.onetables import best_by, first_fall, gain_by, lot_from, rise_by, sure_tied
from forehouse.orders import all_above, is_up_lot
from forehouse.tasks import Task
from forehouse.tellers import sure_guesses
from forehouse.worlds import is_lot

# Each word of a PAPER, and how many things the PAPER has.
FORMS = (("best", 2), ("fall", 3), ("mark", 3))
LESS_ONE = (-1, 1)


def needs_of(world, guesses):
    """For each STATE what it sends less what it gets."""
    return [multiplied(weight, taken(worth, guess)) for (weight, worth), guess in zip(world, guesses)]


def roads_of(above, guesses):
    """All pairs of STATES between which something can flow, ascending."""
    return [(state, high) for state, highs in enumerate(above) for high in highs
            if guesses[state] == guesses[high]]


def best_flow(world, ties, guesses):
    """A FLOW of the BEST GUESSES."""
    roads = roads_of(all_above(len(world), ties), guesses)
    equations = [[ONE if low == state else LESS_ONE if high == state else NOUGHT
                  for low, high in roads] for state in range(len(world))]
    task = Task(equations, needs_of(world, guesses), [1] * len(roads))
    amounts = task.least([0] * len(roads))[0]
    return tuple([(low, high, amounts[at]) for at, (low, high) in enumerate(roads) if at in amounts])


def is_stream(roads, many, thing):
    """Whether it is a triple of a FLOW that uses one of these roads."""
    if not is_row(thing, 3) or not is_weight(thing[2]):
        return False
    if not is_place(thing[0], many) or not is_place(thing[1], many):
        return False
    return (thing[0], thing[1]) in roads


def sent_by(many, flow):
    """For each STATE what it sends less what it gets."""
    out = [NOUGHT] * many
    for low, high, amount in flow:
        out[low] = added(out[low], amount)
        out[high] = taken(out[high], amount)
    return out


def is_flow(world, ties, guesses, thing):
    """Whether any thing is a FLOW of the GUESSES."""
    many = len(world)
    roads = roads_of(all_above(many, ties), guesses)
    if not isinstance(thing, tuple) or not all([is_stream(roads, many, part) for part in thing]):
        return False
    flow = copied(thing)
    if not all([flow[at][:2] < flow[at + 1][:2] for at in range(len(flow) - 1)]):
        return False
    return sent_by(many, flow) == needs_of(world, guesses)


def all_marks(guesses, best):
    """MARKS enough to tell two GUESSES that rise apart by their GAINS."""
    numbers = unlike_in_order(guesses + best)
    halves = [multiplied(HALF, added(numbers[at], numbers[at + 1]))
              for at in range(len(numbers) - 1)]
    # Behind each NUMBER, up to the next one, both LOTS stay, and their GAINS are straight.
    return numbers + halves


def is_beaten(world, guesses, mark, lot):
    """Whether a LOT has a greater GAIN at the MARK than that of GUESSES no less than it."""
    return is_under(gain_by(world, mark, lot_from(guesses, mark)), gain_by(world, mark, lot))


def beating(world, guesses, best):
    """A MARK, and an UP LOT, by the BEST GUESSES, that has a greater GAIN there."""
    found = [(mark, lot_from(best, mark)) for mark in all_marks(guesses, best)]
    return [pair for pair in found if is_beaten(world, guesses, pair[0], pair[1])][0]


def flow_of(world, ties):
    world, ties = sure_tied(world, ties)
    return best_flow(world, ties, best_by(world, ties))


def guesses_paper(world, ties, guesses):
    world, ties = sure_tied(world, ties)
    guesses = sure_guesses(world, guesses)
    best = best_by(world, ties)
    if guesses == best:
        return ("best", best_flow(world, ties, best))
    fall = first_fall(all_above(len(world), ties), guesses)
    if fall is not None:
        return ("fall", fall[0], fall[1])
    mark, lot = beating(world, guesses, best)
    return ("mark", mark, lot)


def does_fall(above, guesses, low, high):
    """Whether any two things are a STATE, and one above it with a lesser GUESS."""
    many = len(above)
    if not is_place(low, many) or not is_place(high, many):
        return False
    return high in above[low] and is_under(guesses[high], guesses[low])


def does_beat(world, above, guesses, mark, lot):
    """Whether any two things are a MARK, and an UP LOT with a greater GAIN there."""
    if not is_fraction(mark) or not is_lot(lot, len(world)) or not is_up_lot(above, lot):
        return False
    return is_beaten(world, guesses, copied(mark), lot)


def does_hold(world, ties, guesses, word, paper):
    """Whether a PAPER with this word is as told."""
    above = all_above(len(world), ties)
    if word == "fall":
        return does_fall(above, guesses, paper[1], paper[2])
    if word == "mark":
        return does_beat(world, above, guesses, paper[1], paper[2])
    return rise_by(above, guesses) and is_flow(world, ties, guesses, paper[1])


def check_guesses(world, ties, guesses, paper):
    world, ties = sure_tied(world, ties)
    guesses = sure_guesses(world, guesses)
    word = word_of(paper, FORMS)
    if word is None:
        raise BadPaper("form")
    if not does_hold(world, ties, guesses, word, paper):
        raise BadPaper(word)
    return word
