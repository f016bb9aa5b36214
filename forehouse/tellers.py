"""GUESSES at the STATES of a WORLD, and what they lose."""

from forehouse.cells import forecasts_by, grouped, mean_in, whole, worths
from forehouse.errors import BadGuesses
from forehouse.exact import NOUGHT, added_up, greater, half_square, in_order, is_under
from forehouse.exact import lesser, multiplied, taken
from forehouse.kinds import are_fractions, copied
from forehouse.ratios import sure_fraction
from forehouse.scores import sure_score
from forehouse.worlds import sure_world


def sure_guesses(world, thing):
    """A plain copy of GUESSES of a WORLD."""
    if not are_fractions(thing, len(world)):
        raise BadGuesses(thing)
    return copied(thing)


def need_guesses(world, thing):
    sure_guesses(sure_world(world), thing)
    return thing


def charge_of(worth, guess, mark):
    """The CHARGE at a MARK of one GUESS, for each unit of WEIGHT."""
    if is_under(guess, mark) and not is_under(worth, mark):
        return taken(worth, mark)
    if is_under(worth, mark) and not is_under(guess, mark):
        return taken(mark, worth)
    return NOUGHT


def area_of(worth, guess, low, high):
    """The area below the CHARGE of one GUESS from low to high, for each unit of WEIGHT."""
    start = greater(low, lesser(worth, guess))
    end = lesser(high, greater(worth, guess))
    if not is_under(start, end):
        return NOUGHT
    near = half_square(taken(start, worth))
    far = half_square(taken(end, worth))
    return taken(far, near) if is_under(worth, guess) else taken(near, far)


def piece_loss(worth, guess, piece):
    """The LOSS of one GUESS by one piece, for each unit of WEIGHT."""
    if piece[0] == "mark":
        return multiplied(piece[2], charge_of(worth, guess, piece[1]))
    return multiplied(piece[3], area_of(worth, guess, piece[1], piece[2]))


def loss_by(world, guesses, score):
    losses = []
    for (weight, worth), guess in zip(world, guesses):
        mixed = added_up([piece_loss(worth, guess, piece) for piece in score])
        losses.append(multiplied(weight, mixed))
    return added_up(losses)


def put_in_row(world, guesses):
    """The LOTS of STATES with the same GUESS, by GUESSES, the lesser ahead."""
    lots = {guesses[lot[0]]: lot for lot in grouped(guesses)}
    return [lots[guess] for guess in in_order(list(lots))]


def own_by(world, guesses):
    """The OWN GUESSES."""
    groups = []
    for lot in put_in_row(world, guesses):
        mean = mean_in(world, lot, worths(world))
        while groups and not is_under(groups[-1][1], mean):
            lot = groups.pop()[0] + lot
            mean = mean_in(world, lot, worths(world))
        groups.append((lot, mean))
    means = {state: mean for lot, mean in groups for state in lot}
    return tuple([means[state] for state in range(len(world))])


def charge(world, guesses, mark):
    world = sure_world(world)
    guesses = sure_guesses(world, guesses)
    mark = sure_fraction(mark)
    return added_up([multiplied(weight, charge_of(worth, guess, mark))
                     for (weight, worth), guess in zip(world, guesses)])


def loss(world, guesses, score):
    world = sure_world(world)
    guesses = sure_guesses(world, guesses)
    score = sure_score(score)
    return loss_by(world, guesses, score)


def own_guesses(world, guesses):
    world = sure_world(world)
    guesses = sure_guesses(world, guesses)
    return own_by(world, guesses)


def is_own(world, guesses):
    world = sure_world(world)
    guesses = sure_guesses(world, guesses)
    return own_by(world, guesses) == guesses


def parts(world, guesses, score):
    world = sure_world(world)
    guesses = sure_guesses(world, guesses)
    score = sure_score(score)
    own = loss_by(world, own_by(world, guesses), score)
    there = loss_by(world, forecasts_by(world, whole(len(world))), score)
    off = taken(loss_by(world, guesses, score), own)
    return (off, taken(there, own), there)
