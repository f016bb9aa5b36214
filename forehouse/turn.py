"""SIDE PAPERS of each SIDE, and SIDE PAPERS turned into those of other SIDES."""

from forehouse.hub import hub_by, paper_by
from forehouse.looks import is_case
from forehouse.rests import wider_hub
from forehouse.shares import sure_share
from forehouse.sides import SIDES, need_cases, need_held, sure_form, sure_side


def side_paper(one, other, side):
    near = sure_share(one)
    far = sure_share(other)
    side = sure_side(side)
    need_cases(one, other, side)
    return paper_by(near, far, side, wider_hub(near, far))


def turned(one, other, paper, side):
    near = sure_share(one)
    far = sure_share(other)
    side = sure_side(side)
    parts = sure_form(paper)
    need_cases(one, other, parts[0])
    need_cases(one, other, side)
    need_held(near, far, parts)
    return paper_by(near, far, side, hub_by(near, far, parts))


def tour(one, other):
    one = sure_share(one)
    other = sure_share(other)
    hub = wider_hub(one, other)
    are_cases = is_case(one) and is_case(other)
    return tuple([paper_by(one, other, side, hub) for side in SIDES
                  if side != "blur" or are_cases])
