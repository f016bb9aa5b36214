"""How far a STEP from a SHARE to a WIDER one can go."""

from forehouse.curtain import far_share, left_curtain
from forehouse.errors import BadNumber, BadPaper
from forehouse.exact import is_strictly_between, is_under
from forehouse.extremes import greatest_four
from forehouse.kinds import copied, is_called, is_fraction
from forehouse.relation import all_numbers, need_wider, rest_of
from forehouse.shares import numbers_of, sure_share
from forehouse.tables import is_between


def is_closed(one, other, mark):
    return rest_of(one, mark) == rest_of(other, mark)


def all_stretches(one, other):
    """All STRETCHES of a SHARE and a WIDER one."""
    out = []
    low = None
    ahead = None
    # RESTS are straight between NUMBERS: open there if open at one of both.
    for number in all_numbers(one, other):
        closed = is_closed(one, other, number)
        if low is None and not closed:
            low = ahead
        elif low is not None and closed:
            out.append((low, number))
            low = None
        ahead = number
    return tuple(out)


def span_of(one, other, number):
    for low, high in all_stretches(one, other):
        if is_strictly_between(low, number, high):
            return (low, high)
    return (number, number)


def sure_number(share, thing):
    """A plain copy of what is a NUMBER of the SHARE."""
    if not is_fraction(thing) or thing not in numbers_of(share):
        raise BadNumber(thing)
    return copied(thing)


def sure_pair(one, other):
    """Plain copies of a SHARE and a WIDER one."""
    one = sure_share(one)
    other = sure_share(other)
    need_wider(one, other)
    return (one, other)


def sure_step(one, other, number, far):
    """Likewise, with a NUMBER of each."""
    one = sure_share(one)
    other = sure_share(other)
    number = sure_number(one, number)
    far = sure_number(other, far)
    need_wider(one, other)
    return (one, other, number, far)


def does_reach(one, other, number, far):
    low, high = span_of(one, other, number)
    return not is_under(far, low) and not is_under(high, far)


def stretches(one, other):
    one, other = sure_pair(one, other)
    return all_stretches(one, other)


def span(one, other, number):
    one = sure_share(one)
    other = sure_share(other)
    number = sure_number(one, number)
    need_wider(one, other)
    return span_of(one, other, number)


def can_go(one, other, number, far):
    one, other, number, far = sure_step(one, other, number, far)
    return does_reach(one, other, number, far)


def table_with(one, other, number, far):
    """A TABLE with as much as can be of the STEP from number to far."""
    paid = tuple([tuple([1 if near == number and end == far else 0 for end in numbers_of(other)])
                  for near in numbers_of(one)])
    return greatest_four(one, other, paid)[0]


def closed_mark(one, other, number, far):
    """A closed MARK that a STEP from number to far would have to leave or to pass."""
    low, high = span_of(one, other, number)
    return low if is_under(far, low) else high


def go_paper(one, other, number, far):
    one, other, number, far = sure_step(one, other, number, far)
    if does_reach(one, other, number, far):
        return ("table", table_with(one, other, number, far))
    return ("mark", closed_mark(one, other, number, far))


def has_step(table, number, far):
    return any([step[0] == number and step[1] == far for step in table])


def does_bar(one, other, number, far, mark):
    """Whether any thing is a closed MARK that shows that there is no such STEP."""
    if not is_fraction(mark) or number == far:
        return False
    if not is_closed(one, other, mark):
        return False
    if mark == number:
        return True
    return is_strictly_between(number, mark, far) or is_strictly_between(far, mark, number)


def check_go(one, other, number, far, paper):
    one, other, number, far = sure_step(one, other, number, far)
    if is_called(paper, "table", 2):
        if not is_between(one, other, paper[1]) or not has_step(paper[1], number, far):
            raise BadPaper("table")
        return "table"
    if not is_called(paper, "mark", 2):
        raise BadPaper("form")
    if not does_bar(one, other, number, far, paper[1]):
        raise BadPaper("mark")
    return "mark"


def pieces(one, other):
    one, other = sure_pair(one, other)
    table = left_curtain(one, other)
    out = []
    for low, high in all_stretches(one, other):
        part = tuple([pair for pair in one if is_strictly_between(low, pair[0], high)])
        out.append((low, high, part, far_share(table, numbers_of(part))))
    return tuple(out)


def fixed_share(one, other):
    one, other = sure_pair(one, other)
    return tuple([pair for pair in one if is_closed(one, other, pair[0])])
