"""LOSS LINES as POINTS, and the LADDERS that have them."""

from forehouse.errors import BadPoints
from forehouse.exact import NOUGHT, ONE, added, divided, do_ascend, is_under, multiplied, taken
from forehouse.exact import unlike_in_order
from forehouse.kinds import copied, is_fraction, is_row, is_row_within
from forehouse.ladders import sure_ladder
from forehouse.moves import line_of
from forehouse.ratios import sure_fraction

LEAST_POINTS = 2
MOST_POINTS = 12


def is_point(thing):
    return is_row(thing, 2) and is_fraction(thing[0]) and is_fraction(thing[1])


def are_points(thing):
    if not is_row_within(thing, LEAST_POINTS, MOST_POINTS):
        return False
    return all([is_point(point) for point in thing]) and do_ascend([point[0] for point in thing])


def sure_points(thing):
    """A plain copy of POINTS."""
    if not are_points(thing):
        raise BadPoints(thing)
    return copied(thing)


def need_points(thing):
    sure_points(thing)
    return thing


def slopes_of(points):
    """The slope between each two neighbours."""
    return [divided(taken(points[at + 1][1], points[at][1]),
                    taken(points[at + 1][0], points[at][0])) for at in range(len(points) - 1)]


def stretch_at(points, worth):
    """The number of the stretch between two POINTS that has what is just above a worth."""
    inner = points[1:-1]
    return len([point for point in inner if not is_under(worth, point[0])])


def height_at(points, worth):
    at = stretch_at(points, worth)
    gone = taken(worth, points[at][0])
    return added(points[at][1], multiplied(slopes_of(points)[at], gone))


def line_at(points, worth):
    points = sure_points(points)
    worth = sure_fraction(worth)
    return height_at(points, worth)


def ladder_back(points, report):
    points = sure_points(points)
    report = sure_fraction(report)
    slopes = slopes_of(points)
    rises = [taken(slopes[at + 1], slopes[at]) for at in range(len(slopes) - 1)]
    if any([is_under(rise, NOUGHT) for rise in rises]):
        return None
    if height_at(points, report) != NOUGHT or slopes[stretch_at(points, report)] != NOUGHT:
        return None
    return tuple([(point[0], rise) for point, rise in zip(points[1:-1], rises) if rise != NOUGHT])


def points_of(ladder, report):
    ladder = sure_ladder(ladder)
    report = sure_fraction(report)
    marks = [mark for mark, _ in ladder]
    ends = unlike_in_order(marks + [report])
    worths = [taken(ends[0], ONE)] + marks + [added(ends[-1], ONE)]
    return tuple([(worth, line_of(ladder, report, worth)) for worth in worths])
