"""CORNERS of LOOKS: how likely SIGNALS are, those of the greatest NUMBERS first."""

from forehouse.errors import BadFraction, BadPaper
from forehouse.exact import NOUGHT, ONE, added, divided, is_under, multiplied, taken
from forehouse.kinds import is_called, is_place
from forehouse.looks import plain_by, sure_look, sure_looks
from forehouse.ratios import sure_fraction


def corners_of(look):
    """The CORNERS of a LOOK."""
    out = [(NOUGHT, NOUGHT)]
    for yes, no in plain_by(look)[::-1]:
        across, up = out[-1]
        out.append((added(across, no), added(up, yes)))
    return tuple(out)


def height_at(points, at):
    """The LINE of CORNERS at a FRACTION from 0 to 1."""
    place = len([point for point in points if not is_under(at, point[0])]) - 1
    across, up = points[place]
    # The last of several CORNERS one above another is the greatest.
    if across == at:
        return up
    far_across, far_up = points[place + 1]
    slope = divided(taken(far_up, up), taken(far_across, across))
    return added(up, multiplied(slope, taken(at, across)))


def is_beyond(points, corner):
    """Whether a CORNER lies above the LINE of others."""
    return is_under(height_at(points, corner[0]), corner[1])


def first_beyond(look, other):
    """The number of the first CORNER of other above look's LINE, or None."""
    points = corners_of(look)
    for number, corner in enumerate(corners_of(other)):
        if is_beyond(points, corner):
            return number
    return None


def corners(look):
    return corners_of(sure_look(look))


def line_at(look, at):
    look = sure_look(look)
    place = sure_fraction(at)
    if is_under(place, NOUGHT) or is_under(ONE, place):
        raise BadFraction(at)
    return height_at(corners_of(look), place)


def is_over(look, other):
    look, other = sure_looks(look, other)
    return first_beyond(look, other) is None


def over_paper(look, other):
    look, other = sure_looks(look, other)
    number = first_beyond(look, other)
    return ("over",) if number is None else ("corner", number)


def does_stand_out(look, other, thing):
    """Whether any thing is the number of a CORNER of other above look's LINE."""
    points = corners_of(other)
    return is_place(thing, len(points)) and is_beyond(corners_of(look), points[thing])


def check_over(look, other, paper):
    look, other = sure_looks(look, other)
    if is_called(paper, "over", 1):
        if first_beyond(look, other) is not None:
            raise BadPaper("over")
        return "over"
    if not is_called(paper, "corner", 2):
        raise BadPaper("form")
    if not does_stand_out(look, other, paper[1]):
        raise BadPaper("corner")
    return "corner"
