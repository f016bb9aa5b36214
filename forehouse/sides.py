"""The eight SIDES of the one relation, and the papers of each."""

from forehouse.blurs import does_blur
from forehouse.cells import is_finer_than, share_by
from forehouse.decisions import is_decision, worth_by
from forehouse.errors import BadCase, BadPaper, BadSide
from forehouse.exact import ONE, added_up, is_under, multiplied, summed_products
from forehouse.fairshares import days_of, fair_in, share_on
from forehouse.kinds import are_fractions, copied, is_fraction, is_price, is_row, is_same, word_of
from forehouse.ladders import is_ladder
from forehouse.looks import is_case, look_of_case
from forehouse.market import has_gain
from forehouse.moves import earned_by
from forehouse.relation import all_numbers, rest_of, unlike, why_not_wider
from forehouse.rests import FORMS, does_hold
from forehouse.scores import is_score
from forehouse.shares import moment_of, numbers_of, sure_share, weights_of
from forehouse.tables import is_between
from forehouse.worlds import is_view, is_world
from forehouse.worths import seen_by

SIDES = ("marks", "scores", "views", "table", "days", "market", "blur", "ladders")

# Those that show by a MARK that it is not so.
MARKED = ("table", "marks", "views", "days")

ANSWERS = ("yes", "no")


def is_side(thing):
    return isinstance(thing, str) and thing in SIDES


def sure_side(thing):
    """The SIDE that a thing is, in the words of this file."""
    if not is_side(thing):
        raise BadSide(thing)
    return SIDES[SIDES.index(thing)]


def sure_form(paper):
    """SIDE, ANSWER and THING of what has the form of a SIDE PAPER."""
    if not is_row(paper, 3) or not is_side(paper[0]):
        raise BadPaper("form")
    side, answer, thing = paper
    if not isinstance(answer, str) or answer not in ANSWERS:
        raise BadPaper("form")
    return (sure_side(side), ANSWERS[ANSWERS.index(answer)], thing)


def need_cases(one, other, side):
    """Raises the error of the first one that is no CASE SHARE, if the SIDE wants such."""
    for share in (one, other):
        if side == "blur" and not is_case(share):
            raise BadCase(share)


def seen_at(share, mark):
    return seen_by((("mark", mark, ONE),), share)


def earned_at(share, mark):
    return earned_by(((mark, ONE),), mark, share)


def triples_of(one, other, told):
    """For all NUMBERS of both SHARES what is told of the one and of the other there."""
    return tuple([(mark, told(one, mark), told(other, mark)) for mark in all_numbers(one, other)])


def list_of(one, other, side):
    """The list that shows on this SIDE that other is WIDER."""
    if side == "marks":
        return triples_of(one, other, rest_of)
    return triples_of(one, other, seen_at if side == "scores" else earned_at)


def are_views(one, other, thing):
    """Whether any thing is a WORLD with two VIEWS with these SHARES, the second one finer."""
    if not is_row(thing, 3) or not is_world(thing[0]):
        return False
    many = len(thing[0])
    if not is_view(thing[1], many) or not is_view(thing[2], many):
        return False
    world, view, finer = copied(thing)
    if not is_finer_than(finer, view):
        return False
    return share_by(world, view) == one and share_by(world, finer) == other


def are_days(one, other, thing):
    """Whether any thing is a FAIR SHARE of two DAYS with these SHARES."""
    fair = fair_in(thing)
    if fair is None or days_of(fair) != 2:
        return False
    return share_on(fair, 0) == one and share_on(fair, 1) == other


def have_form_of_costs(one, other, thing):
    if not is_row(thing, len(one)):
        return False
    if not all([are_fractions(row, len(other)) for row in thing]):
        return False
    return all([is_price(part) for row in thing for part in row])


def are_costs(one, other, thing):
    """Whether any thing has what it costs, for each NUMBER of one and of other, to have 1 there."""
    if not have_form_of_costs(one, other, thing):
        return False
    rows = copied(thing)
    if [added_up(list(col)) for col in zip(*rows)] != list(weights_of(other)):
        return False
    for (number, weight), row in zip(one, rows):
        if added_up(row) != weight:
            return False
        if summed_products(row, numbers_of(other)) != multiplied(number, weight):
            return False
    return True


def is_shown(one, other, side, thing):
    """Whether any thing shows on a SIDE that other is WIDER than one."""
    if side == "table":
        return is_between(one, other, thing)
    if side == "views":
        return are_views(one, other, thing)
    if side == "days":
        return are_days(one, other, thing)
    if side == "market":
        return are_costs(one, other, thing)
    if side == "blur":
        if moment_of(one) != moment_of(other):
            return False
        return does_blur(look_of_case(other), look_of_case(one), thing)
    return why_not_wider(one, other) is None and is_same(thing, list_of(one, other, side))


def do_see_less(one, other, thing):
    if not is_score(thing):
        return False
    score = copied(thing)
    return is_under(seen_by(score, other), seen_by(score, one))


def do_earn_less(one, other, thing):
    if not is_row(thing, 2) or not is_ladder(thing[0]) or not is_fraction(thing[1]):
        return False
    ladder, report = copied(thing)
    return is_under(earned_by(ladder, report, other), earned_by(ladder, report, one))


def is_worth_less(one, other, thing):
    """Whether any thing is a DECISION that is worth less with other's LOOK than with one's."""
    if not is_decision(thing):
        return False
    decision = copied(thing)
    prior = moment_of(one)
    return is_under(worth_by(look_of_case(other), prior, decision),
                    worth_by(look_of_case(one), prior, decision))


def is_denied(one, other, side, thing):
    """Whether any thing shows on a SIDE that other is not WIDER than one."""
    if side == "market":
        return has_gain(one, other, thing)
    word = word_of(thing, FORMS)
    if word in ("total", "moment") or (word == "mark" and side in MARKED):
        return does_hold(one, other, word, thing)
    if side in MARKED or unlike(one, other) is not None:
        return False
    if side == "scores":
        return do_see_less(one, other, thing)
    if side == "ladders":
        return do_earn_less(one, other, thing)
    return is_worth_less(one, other, thing)


def need_held(one, other, paper):
    """Raises the error of a THING that is not as told; paper has its three things."""
    side, answer, thing = paper
    does_show = is_shown if answer == "yes" else is_denied
    if not does_show(one, other, side, thing):
        raise BadPaper(side)


def is_sides(thing):
    return is_side(thing)


def sure_paper(one, other, paper):
    """Plain copies of two SHARES, and the three things of a SIDE PAPER on them that holds."""
    near = sure_share(one)
    far = sure_share(other)
    parts = sure_form(paper)
    need_cases(one, other, parts[0])
    need_held(near, far, parts)
    return (near, far, parts)


def check_side(one, other, paper):
    return sure_paper(one, other, paper)[2][1]
