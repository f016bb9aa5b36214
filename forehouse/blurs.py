"""BLURS: what one LOOK has of another one."""

from forehouse.cells import is_finer_than, lies_within
from forehouse.curtain import left_curtain
from forehouse.errors import BadBlur, BadCase, BadPaper, TooMany
from forehouse.exact import HALF, NOUGHT, ONE, added, added_up, divided, is_under, multiplied
from forehouse.exact import summed_products
from forehouse.kinds import copied, is_fraction, is_price, is_row, is_row_within, word_of
from forehouse.looks import MOST_SIGNALS, is_case, pair_by, share_of_look, sure_case_world
from forehouse.looks import sure_look, sure_looks, sure_prior
from forehouse.relation import rest_of, why_not_wider
from forehouse.tables import left_of, right_of, sure_table, table_from
from forehouse.worlds import sure_view

# Each word of a PAPER, and how many things the PAPER has.
FORMS = (("blur", 2), ("mark", 2))


def is_parting(thing, many):
    """Whether it has so many FRACTIONS from nought on, together 1."""
    if not is_row(thing, many) or not all([is_price(part) for part in thing]):
        return False
    return added_up(copied(thing)) == ONE


def are_partings(thing, lines, many):
    return is_row(thing, lines) and all([is_parting(line, many) for line in thing])


def parted_signals(look, rows):
    """The pairs that come where each SIGNAL is parted by its row."""
    yes = [signal[0] for signal in look]
    no = [signal[1] for signal in look]
    return tuple([(summed_products(yes, parts), summed_products(no, parts))
                  for parts in zip(*rows)])


def does_blur(look, other, thing):
    """Whether any thing is a BLUR from a LOOK to another one."""
    if not are_partings(thing, len(look), len(other)):
        return False
    return parted_signals(look, copied(thing)) == other


def sure_blur(look, other, thing):
    """A plain copy of a BLUR."""
    if not does_blur(look, other, thing):
        raise BadBlur(thing)
    return copied(thing)


def why_not_had(look, other):
    """A PAPER that other is not had of look, None if it is."""
    return why_not_wider(share_of_look(other, HALF), share_of_look(look, HALF))


def rows_from(table, nears, fars):
    """For each pair of fars the part of it that comes from each pair of nears, by a TABLE.

    Both are pairs of NUMBERS and WEIGHTS, several perhaps with the same NUMBER.
    """
    steps = {(near, far): weight for near, far, weight in table}
    lefts = {number: weight for number, weight in left_of(table)}
    rights = {number: weight for number, weight in right_of(table)}
    shares = [divided(weight, lefts[number]) for number, weight in nears]
    return tuple([tuple([multiplied(divided(steps.get((near, far), NOUGHT), rights[far]), share)
                         for (near, _), share in zip(nears, shares)]) for far, _ in fars])


def blur_with(look, other):
    """A BLUR from a LOOK to another one that is had of it."""
    table = left_curtain(share_of_look(other, HALF), share_of_look(look, HALF))
    return rows_from(table, [pair_by(signal, HALF) for signal in other],
                     [pair_by(signal, HALF) for signal in look])


def blur_of_table(table):
    """The BLUR of a TABLE of CASE SHARES."""
    return rows_from(table, left_of(table), right_of(table))


def table_of_blur(look, other, blur, prior):
    """The TABLE of a BLUR, by a PRIOR."""
    nears = [pair_by(signal, prior)[0] for signal in other]
    weights = {}
    for signal, parts in zip(look, blur):
        far, weight = pair_by(signal, prior)
        for near, part in zip(nears, parts):
            if part != NOUGHT:
                more = multiplied(weight, part)
                weights[(near, far)] = added(weights.get((near, far), NOUGHT), more)
    return table_from(weights)


def is_blur(look, other, value):
    look, other = sure_looks(look, other)
    return does_blur(look, other, value)


def is_had(look, other):
    look, other = sure_looks(look, other)
    return why_not_had(look, other) is None


def blur_paper(look, other):
    look, other = sure_looks(look, other)
    paper = why_not_had(look, other)
    return ("blur", blur_with(look, other)) if paper is None else paper


def does_mark(look, other, thing):
    """Whether any thing is a MARK at which the REST of other is greater than that of look."""
    if not is_fraction(thing):
        return False
    mark = copied(thing)
    rests = [rest_of(share_of_look(one, HALF), mark) for one in (look, other)]
    return is_under(rests[0], rests[1])


def check_blur(look, other, paper):
    look, other = sure_looks(look, other)
    word = word_of(paper, FORMS)
    if word is None:
        raise BadPaper("form")
    if word == "blur" and not does_blur(look, other, paper[1]):
        raise BadPaper("blur")
    if word == "mark" and not does_mark(look, other, paper[1]):
        raise BadPaper("mark")
    return word


def are_rows(look, thing):
    """Whether any thing parts each SIGNAL into as many, at most six."""
    if not is_row(thing, len(look)) or not is_row_within(thing[0], 1, MOST_SIGNALS):
        return False
    return are_partings(thing, len(look), len(thing[0]))


def blurred(look, rows):
    look = sure_look(look)
    if not are_rows(look, rows):
        raise BadBlur(rows)
    signals = parted_signals(look, copied(rows))
    if (NOUGHT, NOUGHT) in signals:
        raise BadBlur(rows)
    return signals


def blur_by(table):
    table = sure_table(table)
    for share in (left_of(table), right_of(table)):
        if not is_case(share):
            raise BadCase(share)
    return blur_of_table(table)


def table_by(look, other, blur, prior):
    look, other = sure_looks(look, other)
    blur = sure_blur(look, other, blur)
    prior = sure_prior(prior)
    return table_of_blur(look, other, blur, prior)


def view_blur(world, view, other):
    world = sure_case_world(world)
    view = sure_view(world, view)
    other = sure_view(world, other)
    if len(view) > MOST_SIGNALS or len(other) > MOST_SIGNALS:
        raise TooMany(MOST_SIGNALS)
    if not is_finer_than(view, other):
        return None
    return tuple([tuple([ONE if lies_within(cell, far) else NOUGHT for far in other])
                  for cell in view])
