"""What SHARES, WORLDS and TABLES are worth by a SCORE."""

from forehouse.exact import added_up, divided, excess, is_under, multiplied, taken
from forehouse.ratios import sure_fraction
from forehouse.relation import all_numbers, is_rest_less
from forehouse.scores import bend_by, sure_score
from forehouse.shares import moment_of, sure_share, total_of
from forehouse.tables import sure_table
from forehouse.worlds import sure_world


def weighed_by(score, share):
    """The WEIGHED REST of a SHARE."""
    return added_up([multiplied(weight, bend_by(score, number)) for number, weight in share])


def weighed_rest(score, share):
    score = sure_score(score)
    share = sure_share(share)
    return weighed_by(score, share)


def seen_by(score, share):
    """What a SHARE SEES."""
    total = total_of(share)
    mean = divided(moment_of(share), total)
    return taken(weighed_by(score, share), multiplied(total, bend_by(score, mean)))


def sees(score, share):
    score = sure_score(score)
    share = sure_share(share)
    return seen_by(score, share)


def world_rest(world, mark):
    world = sure_world(world)
    mark = sure_fraction(mark)
    return added_up([multiplied(weight, excess(worth, mark)) for weight, worth in world])


def weighed_world(score, world):
    score = sure_score(score)
    world = sure_world(world)
    return added_up([multiplied(weight, bend_by(score, worth)) for weight, worth in world])


def step_cost(score, table):
    score = sure_score(score)
    table = sure_table(table)
    return added_up([multiplied(weight, taken(bend_by(score, far), bend_by(score, near)))
                     for near, far, weight in table])


def marks_of(piece, numbers):
    """The MARKS of a piece between which RESTS with these NUMBERS are straight."""
    if piece[0] == "mark":
        return [piece[1]]
    inner = [number for number in numbers
             if is_under(piece[1], number) and is_under(number, piece[2])]
    return [piece[1]] + inner + [piece[2]]


def lesser_mark(score, one, other):
    """A MARK of a SCORE, or within a stretch of it, at which other has a lesser REST, or None."""
    if not is_under(weighed_by(score, other), weighed_by(score, one)):
        return None
    # Some piece has less of other's REST; over a stretch that is so at one of these.
    numbers = all_numbers(one, other)
    lesser = [mark for piece in score for mark in marks_of(piece, numbers)
              if is_rest_less(one, other, mark)]
    return lesser[0]


def mark_of(score, one, other):
    score = sure_score(score)
    one = sure_share(one)
    other = sure_share(other)
    return lesser_mark(score, one, other)
