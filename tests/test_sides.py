"""The eight SIDES: SIDE PAPERS, HUBS, papers turned."""

import unittest
from fractions import Fraction

from forehouse import hub, looks, rests, sides, turn
from forehouse.blurs import is_blur
from forehouse.errors import BadCase, BadPaper, BadShare, BadSide
from forehouse.fairshares import fair_by
from forehouse.lefts import right_table
from forehouse.market import gain_by
from forehouse.shares import total
from forehouse.views import is_finer, share_of
from forehouse.worths import sees
from tests import wrongs
from tests.makers import (Maker, is_wider_by_rests, pair_of, rest, share_of_integers, whole,
                          world_of_integers, worth)
from tests.wrongs import ODD

SIDES = ("marks", "scores", "views", "table", "days", "market", "blur", "ladders")
HALF = (1, 2)
# To tell the truth three times of four, and always.
ONE = (((1, 4), HALF), ((3, 4), HALF))
OTHER = ((whole(0), HALF), (whole(1), HALF))
NEARS = ((3, 8), (1, 8), (1, 8), (3, 8))
TABLE = (((1, 4), whole(0), (3, 8)), ((1, 4), whole(1), (1, 8)), ((3, 4), whole(0), (1, 8)),
         ((3, 4), whole(1), (3, 8)))
NOUGHT = whole(0)

# For each SIDE what shows that OTHER is WIDER than ONE.
YES = {
    "table": TABLE,
    "marks": ((NOUGHT, HALF, HALF), ((1, 4), (1, 4), (3, 8)), ((3, 4), NOUGHT, (1, 8)),
              (whole(1), NOUGHT, NOUGHT)),
    "scores": ((NOUGHT, NOUGHT, NOUGHT), ((1, 4), NOUGHT, (1, 8)), ((3, 4), NOUGHT, (1, 8)),
               (whole(1), NOUGHT, NOUGHT)),
    "ladders": ((NOUGHT, NOUGHT, NOUGHT), ((1, 4), NOUGHT, (1, 8)), ((3, 4), (1, 4), (3, 8)),
                (whole(1), HALF, HALF)),
    "views": (tuple(zip(NEARS, (whole(0), whole(1), whole(0), whole(1)))), ((0, 1), (2, 3)),
              ((0,), (1,), (2,), (3,))),
    "days": tuple((step[:2], step[2]) for step in TABLE),
    "market": (NEARS[:2], NEARS[2:]),
    "blur": (((3, 4), (1, 4)), ((1, 4), (3, 4)))}

# For each what shows that ONE is not WIDER than OTHER.
NO = {
    "table": ("mark", (1, 4)), "marks": ("mark", HALF), "views": ("mark", (3, 4)),
    "days": ("mark", (9, 10)), "scores": (("mark", (1, 4), whole(3)), ("mark", whole(7), whole(1))),
    "ladders": (((HALF, whole(1)), (whole(5), whole(2))), whole(-1)),
    "market": ((NOUGHT, (-1, 2)), (NOUGHT, (1, 4)), (NOUGHT, whole(-1))),
    "blur": ((whole(1), whole(-1)), (NOUGHT, NOUGHT))}


def seen(score, share):
    """What a SHARE SEES by a SCORE of "mark"s, by the words of the document."""
    whole_total = sum(worth(weight) for _, weight in share)
    mean = sum(worth(weight) * worth(number) for number, weight in share) / whole_total
    return sum(worth(price) * (rest(share, worth(mark)) - whole_total * max(mean - worth(mark), 0))
               for _, mark, price in score)


def earned(ladder, report, share):
    """What a hand EARNS, deal by deal."""
    out = Fraction(0)
    for number, weight in share:
        for mark, units in ladder:
            buys = worth(report) < worth(mark) <= worth(number)
            sells = worth(number) < worth(mark) <= worth(report)
            out += worth(weight) * worth(units) * (worth(number) - worth(mark)) * (buys - sells)
    return out


def numbers_of(one, other):
    return [pair_of(number) for number in sorted({worth(number) for number, _ in one + other})]


def listed(one, other, told):
    return tuple((mark, pair_of(told(mark, one)), pair_of(told(mark, other)))
                 for mark in numbers_of(one, other))


def shares_of_pairs(triples):
    """The SHARES of the first and of the second things of triples."""
    out = []
    for at in (0, 1):
        weights = {}
        for triple in triples:
            weights[worth(triple[at])] = weights.get(worth(triple[at]), 0) + worth(triple[2])
        out.append(tuple((pair_of(number), pair_of(weights[number])) for number in sorted(weights)))
    return out


class Words:
    """Whether a THING holds, by the words of the document, on each SIDE."""

    def __init__(self, one, other):
        self.one = one
        self.other = other

    def fair(self, triples):
        drifts = {}
        for near, far, weight in triples:
            drifts[near] = drifts.get(near, 0) + worth(weight) * (worth(far) - worth(near))
        return (shares_of_pairs(triples) == [self.one, self.other]
                and all(drift == 0 for drift in drifts.values()))

    def yes(self, side, thing):
        one, other = self.one, self.other
        if side == "table":
            return self.fair(thing)
        if side == "marks":
            return thing == listed(one, other, lambda mark, share: rest(share, worth(mark)))
        if side == "scores":
            return thing == listed(one, other, lambda mark, share: seen(
                (("mark", mark, whole(1)),), share))
        if side == "ladders":
            return thing == listed(one, other, lambda mark, share: earned(
                ((mark, whole(1)),), mark, share))
        if side == "views":
            world, view, finer = thing
            return (share_of(world, view) == one and share_of(world, finer) == other
                    and is_finer(world, finer, view))
        if side == "days":
            return self.fair([(path[0], path[1], weight) for path, weight in thing])
        if side == "market":
            return self.fair([(near, far, part) for (near, _), row in zip(one, thing)
                              for (far, _), part in zip(other, row) if part != NOUGHT])
        return is_blur(looks.look_of(other), looks.look_of(one), thing)

    def no(self, side, thing):
        one, other = self.one, self.other
        if side == "market":
            return self.gains(thing)
        if thing == ("total",):
            return total(one) != total(other)
        if thing == ("moment",):
            return (sum(worth(n) * worth(w) for n, w in one)
                    != sum(worth(n) * worth(w) for n, w in other))
        if side in ("table", "marks", "views", "days"):
            return rest(other, worth(thing[1])) < rest(one, worth(thing[1]))
        if side == "scores":
            return seen(thing, other) < seen(thing, one)
        if side == "ladders":
            return earned(*thing, other) < earned(*thing, one)
        return self.brings(thing, other) < self.brings(thing, one)

    def gains(self, thing):
        near, far, deals = thing
        rows = [worth(own) + worth(paid) + worth(dealt) * (worth(later) - worth(number))
                for (number, _), own, dealt in zip(self.one, near, deals)
                for (later, _), paid in zip(self.other, far)]
        cost = sum(worth(weight) * worth(part) for share, parts in ((self.one, near), (self.other, far))
                   for (_, weight), part in zip(share, parts))
        return min(rows) >= 0 and cost < 0

    def brings(self, decision, share):
        """A DECISION's WORTH, NUMBER by NUMBER."""
        return sum(worth(weight) * max(worth(a) * worth(number) + worth(b) * (1 - worth(number))
                                       for a, b in decision) for number, weight in share)


def pair_of_shares(maker):
    """Two SHARES of all sorts: WIDER or not, with like TOTALS and MOMENTS or not, CASES or not."""
    kind = maker.below(5)
    if kind == 0:
        return maker.two(4)
    if kind == 1:
        return maker.two(3)[::-1]
    if kind == 2:
        one = maker.share(3)
        return one, maker.alike(one)
    if kind == 3:
        return maker.share(3), maker.share(3)
    look = maker.look(5)
    other = maker.coarse(look)[0] if maker.below(2) else maker.look(4)
    prior = maker.prior()
    later = prior if maker.below(3) else maker.prior()
    return looks.share_by(other, prior), looks.share_by(look, later)


class ByHandTest(unittest.TestCase):

    def test_sides(self):
        for side in SIDES:
            self.assertIs(sides.is_sides(side), True)
        for thing in ODD + wrongs.SIDES:
            self.assertIs(sides.is_sides(thing), False)

    def test_yes(self):
        for side in SIDES:
            self.assertTrue(Words(ONE, OTHER).yes(side, YES[side]))
            self.assertEqual(sides.check_side(ONE, OTHER, (side, "yes", YES[side])), "yes")
            # There is one TABLE alone from ONE to OTHER, but WORLDS may have more STATES.
            self.assertEqual(turn.side_paper(ONE, OTHER, side), (side, "yes", YES[side]))
            self.refuse(OTHER, ONE, (side, "yes", YES[side]), side)
            self.refuse(ONE, ONE, (side, "yes", YES[side]), side)

    def test_no(self):
        for side in SIDES:
            self.assertTrue(Words(OTHER, ONE).no(side, NO[side]))
            self.assertEqual(sides.check_side(OTHER, ONE, (side, "no", NO[side])), "no")
            self.refuse(ONE, OTHER, (side, "no", NO[side]), side)
            self.refuse(ONE, ONE, (side, "no", NO[side]), side)

    def test_unlike_totals_and_moments(self):
        more = ((whole(0), HALF), (whole(1), whole(1)))
        high = ((whole(0), (1, 4)), (whole(1), (3, 4)))
        # NUMBERS that make up for the TOTAL.
        same = ((whole(0), HALF), ((1, 2), whole(1)))
        for side in SIDES:
            for other, total_holds, moment_holds in ((more, True, True), (high, False, True),
                                                     (same, True, False)):
                if side == "blur" and other != high:
                    continue
                for word, holds in (("total", total_holds), ("moment", moment_holds)):
                    paper = (side, "no", (word,))
                    if holds and side != "market":
                        self.assertEqual(sides.check_side(ONE, other, paper), "no")
                        self.assertEqual(sides.check_side(other, ONE, paper), "no")
                    else:
                        self.refuse(ONE, other, paper, side)
        # A MARK holds whatever TOTALS and MOMENTS are; what is SEEN does not.
        for side in ("table", "marks", "views", "days"):
            self.assertEqual(sides.check_side(more, ONE, (side, "no", ("mark", HALF))), "no")
        self.refuse(more, ONE, ("scores", "no", (("mark", HALF, whole(1)),)), "scores")
        self.refuse(more, ONE, ("ladders", "no", (((HALF, whole(1)),), HALF)), "ladders")
        self.refuse(high, ONE, ("scores", "no", (("mark", HALF, whole(1)),)), "scores")
        self.refuse(high, ONE, ("blur", "no", ((whole(1), whole(-1)), (NOUGHT, NOUGHT))), "blur")
        self.assertEqual(sides.check_side(ONE, more, ("market", "no", gain_by(ONE, more, ("total",)))),
                         "no")

    def test_other_things_that_hold(self):
        # One STATE more, that changes no FORECAST; CELLS of STATES that are alike.
        world = tuple((weight, number) for weight, number in zip(
            ((3, 8), (1, 16), (1, 16), (1, 8), (3, 8)), map(whole, (0, 1, 1, 0, 1))))
        for finer in (((0,), (1, 2), (3,), (4,)), ((0,), (1,), (2,), (3,), (4,))):
            self.assertEqual(sides.check_side(
                ONE, OTHER, ("views", "yes", (world, ((0, 1, 2), (3, 4)), finer))), "yes")
        # VIEWS with these SHARES, but the second one is not finer.
        twice = world_of_integers((3, 0), (1, 1), (1, 0), (3, 1))
        double = [tuple((number, pair_of(worth(weight) * 8)) for number, weight in share)
                  for share in (ONE, OTHER)]
        paper = ("views", "yes", (twice, ((0, 1), (2, 3)), ((0, 2), (1, 3))))
        self.refuse(double[0], double[1], paper, "views")
        stretch = (("stretch", NOUGHT, whole(1), whole(1)),)
        self.assertEqual(sides.check_side(OTHER, ONE, ("scores", "no", stretch)), "no")
        self.refuse(OTHER, ONE, ("scores", "no", ()), "scores")
        self.refuse(OTHER, ONE, ("ladders", "no", ((), HALF)), "ladders")
        self.refuse(OTHER, ONE, ("scores", "no", (("mark", whole(1), whole(1)),)), "scores")

    def refuse(self, one, other, paper, part):
        for call in (sides.check_side, hub.hub_of):
            with self.assertRaises(BadPaper) as caught:
                call(one, other, paper)
            self.assertEqual(caught.exception.part, part)
        with self.assertRaises(BadPaper) as caught:
            turn.turned(one, other, paper, "marks")
        self.assertEqual(caught.exception.part, part)

    def test_wrong_forms(self):
        good = ("marks", "yes", YES["marks"])
        for thing in ODD + (good[:2], good + (1,), list(good), ("mark", "yes", YES["marks"]),
                            ("marks", "Yes", YES["marks"]), ("marks", True, YES["marks"]),
                            ("yes", "marks", YES["marks"]), (None,) + good[1:],
                            ("marks", None, YES["marks"])):
            self.refuse(ONE, OTHER, thing, "form")

    def test_wrong_things(self):
        some = ODD + wrongs.TABLES + wrongs.FAIRS + wrongs.SCORES + wrongs.DECISIONS + wrongs.BLURS
        for side in SIDES:
            for thing in some + (("mark",), ("total", 1), ("mark", HALF, HALF), ["total"],
                                 ("mark", NOUGHT), ("mark", 1), ("total",), ("moment",)):
                for answer in ("yes", "no"):
                    self.refuse(ONE, OTHER, (side, answer, thing), side)
            # What holds on one SIDE holds on no other one, but MARKS and lists that are the same.
            for other_side in SIDES:
                if YES[side] != YES[other_side]:
                    self.refuse(ONE, OTHER, (side, "yes", YES[other_side]), side)

    def test_lists_and_costs_that_are_nearly_right(self):
        for side in ("marks", "scores", "ladders"):
            good = YES[side]
            for thing in (good[1:], good[:-1], good[::-1], good + good[-1:], list(good),
                          good[:1] + ((good[1][0], good[1][2], good[1][1]),) + good[2:],
                          good[:1] + (good[1][:2],) + good[2:],
                          good[:1] + ((good[1][0], good[1][1], whole(1)),) + good[2:]):
                self.refuse(ONE, OTHER, (side, "yes", thing), side)
        for thing in (YES["market"][::-1], YES["market"][:1], (((1, 4),) * 2,) * 2,
                      ((HALF, NOUGHT), (NOUGHT, HALF)), ((HALF, HALF), (NOUGHT, NOUGHT)),
                      (NEARS[:2], NEARS[2:] + (NOUGHT,)), (((1, 2), NOUGHT), ((-1, 8), (5, 8)))):
            self.refuse(ONE, OTHER, ("market", "yes", thing), "market")
        # All is right but what those of a NUMBER of one are together.
        self.refuse(ONE, OTHER, ("market", "yes", ((HALF, (1, 8)), (NOUGHT, (3, 8)))), "market")
        # All is right but what those of a NUMBER of other are together.
        three = ((NOUGHT, (1, 4)), (HALF, HALF), (whole(1), (1, 4)))
        last = (NOUGHT, (1, 4), (1, 4))
        self.assertEqual(sides.check_side(
            ONE, three, ("market", "yes", (((1, 4), (1, 4), NOUGHT), last))), "yes")
        self.refuse(ONE, three, ("market", "yes", (((3, 8), NOUGHT, (1, 8)), last)), "market")

    def test_worlds_and_views_that_are_none(self):
        world, view, finer = YES["views"]
        for thing in ((world[:3], view, finer), (list(world), view, finer), (world, view[:1], finer),
                      (world, view, finer[:3]), (world, finer, view), (world, None, finer),
                      (world, view, None), (None, view, finer), ((), (), ()), (world, view),
                      (world, ((0, 1), (2, 4)), finer), (world, view, finer, finer)):
            self.refuse(ONE, OTHER, ("views", "yes", thing), "views")

    def test_a_blur_where_moments_are_unlike(self):
        look = looks.look_of(OTHER)
        for prior in ((1, 3), HALF):
            one = looks.share_by(look, prior)
            same = ("blur", "yes", ((whole(1), NOUGHT), (NOUGHT, whole(1))))
            if prior == HALF:
                self.assertEqual(sides.check_side(one, OTHER, same), "yes")
            else:
                self.refuse(one, OTHER, same, "blur")

    def test_what_is_no_case_share(self):
        beyond = ((whole(-1), HALF), (whole(2), HALF))
        good = ("blur", "yes", YES["blur"])
        for one, other, given in ((beyond, OTHER, beyond), (ONE, beyond, beyond),
                                  (share_of_integers((0, 1)), beyond, share_of_integers((0, 1)))):
            for call, args in ((sides.check_side, (good,)), (hub.hub_of, (good,)),
                               (turn.side_paper, ("blur",)), (turn.turned, (good, "marks")),
                               (turn.turned, (("marks", "yes", None), "blur"))):
                with self.assertRaises(BadCase) as caught:
                    call(one, other, *args)
                self.assertEqual(caught.exception.given, given)
            # Ahead of it is whatever else is wrong but what holds.
            self.assertRaises(BadPaper, sides.check_side, one, other, ("blur", "maybe", None))
            self.assertRaises(BadSide, turn.turned, one, other, good, "no")
        wide = ((whole(-1), HALF), (whole(2), HALF))
        # The HUB is looked at ahead of it.
        with self.assertRaises(BadPaper) as caught:
            hub.side_by(ONE, wide, ("total",), "blur")
        self.assertEqual(caught.exception.part, "total")
        self.assertRaises(BadCase, hub.side_by, ONE, wide, rests.wider_paper(ONE, wide), "blur")
        self.assertEqual([paper[0] for paper in turn.tour(ONE, wide)],
                         [side for side in SIDES if side != "blur"])
        self.assertEqual([paper[0] for paper in turn.tour(ONE, OTHER)], list(SIDES))

    def test_errors_in_turn(self):
        hold = ("marks", "yes", YES["marks"])
        for thing in ODD + wrongs.SIDES:
            for call, args in ((turn.side_paper, (thing,)), (turn.turned, (None, thing)),
                               (hub.side_by, (None, thing))):
                with self.assertRaises(BadSide) as caught:
                    call(ONE, OTHER, *args)
                self.assertIs(caught.exception.given, thing)
        for thing in ODD + wrongs.SHARES:
            for call, args in ((turn.side_paper, (None,)), (turn.turned, (None, None)),
                               (hub.side_by, (None, None)), (hub.hub_of, (None,)),
                               (sides.check_side, (None,)), (turn.tour, ())):
                for pair in ((thing, None), (ONE, thing)):
                    with self.assertRaises(BadShare) as caught:
                        call(*pair, *args)
                    self.assertIs(caught.exception.given, thing)
        for thing in ODD + (("table",), ("total", 1), ("mark", 1, 2), ("marks", HALF)):
            with self.assertRaises(BadPaper) as caught:
                hub.side_by(ONE, OTHER, thing, "marks")
            self.assertEqual(caught.exception.part, "form")
        for paper in (("table", TABLE[:1]), ("total",), ("moment",), ("mark", HALF), ("mark", 1)):
            with self.assertRaises(BadPaper) as caught:
                hub.side_by(ONE, OTHER, paper, "marks")
            self.assertEqual(caught.exception.part, paper[0])
        self.assertEqual(turn.turned(ONE, OTHER, hold, "table"), ("table", "yes", TABLE))


class FactsTest(unittest.TestCase):

    def test_every_paper_turned_into_every_other_one(self):
        maker = Maker(170)
        told = {}
        for _ in range(140):
            one, other = pair_of_shares(maker)
            wide = is_wider_by_rests(one, other)
            answer = "yes" if wide else "no"
            words = Words(one, other)
            tour = turn.tour(one, other)
            names = [paper[0] for paper in tour]
            self.assertEqual(names, [side for side in SIDES if side in names])
            for paper in tour:
                side, said, thing = paper
                self.assertEqual(said, answer)
                self.assertEqual(paper, turn.side_paper(one, other, side))
                self.assertTrue(words.yes(side, thing) if wide else words.no(side, thing), paper)
                self.assertEqual(sides.check_side(one, other, paper), answer)
                found = hub.hub_of(one, other, paper)
                self.assertEqual(rests.check_wider(one, other, found), found[0])
                kind = (side, found[0])
                told[kind] = told.get(kind, 0) + 1
                for later in names:
                    there = turn.turned(one, other, paper, later)
                    self.assertEqual(there[:2], (later, answer))
                    self.assertEqual(sides.check_side(one, other, there), answer)
                    back = turn.turned(one, other, there, side)
                    self.assertEqual(sides.check_side(one, other, back), answer)
                    self.assertEqual(sides.check_side(
                        one, other, hub.side_by(one, other, found, later)), answer)
        # Each SIDE by each word of a HUB; of CASE SHARES the TOTALS are alike.
        for side in SIDES:
            for word in ("table", "total", "moment", "mark"):
                if (side, word) != ("blur", "total"):
                    self.assertGreater(told.get((side, word), 0), 5, (side, word))

    def test_each_hub_into_each_side(self):
        maker = Maker(171)
        for _ in range(120):
            one, other = pair_of_shares(maker)
            names = [paper[0] for paper in turn.tour(one, other)]
            for paper in (("total",), ("moment",), ("mark", maker.fraction()),
                          rests.wider_paper(one, other)):
                try:
                    rests.check_wider(one, other, paper)
                except BadPaper as error:
                    for side in names:
                        with self.assertRaises(BadPaper) as caught:
                            hub.side_by(one, other, paper, side)
                        self.assertEqual(caught.exception.part, error.part)
                    continue
                for side in names:
                    answer = "yes" if paper[0] == "table" else "no"
                    turned = hub.side_by(one, other, paper, side)
                    self.assertEqual(turned[:2], (side, answer))
                    self.assertEqual(sides.check_side(one, other, turned), answer)

    def test_tables_stay_on_the_sides_that_have_one(self):
        maker = Maker(172)
        for _ in range(80):
            one, other = maker.two(4)
            for table in (rests.wider_paper(one, other)[1], right_table(one, other)):
                for side in ("table", "views", "days", "market"):
                    paper = hub.side_by(one, other, ("table", table), side)
                    self.assertEqual(hub.hub_of(one, other, paper), ("table", table))
            self.assertEqual(turn.side_paper(one, other, "days")[2], fair_by((one, other)))
            look = maker.look(5)
            coarse, prior = maker.coarse(look)[0], maker.prior()
            near, far = looks.share_by(coarse, prior), looks.share_by(look, prior)
            for table in (rests.wider_paper(near, far)[1], right_table(near, far)):
                paper = hub.side_by(near, far, ("table", table), "blur")
                self.assertEqual(hub.hub_of(near, far, paper), ("table", table))

    def test_other_papers_that_hold(self):
        maker = Maker(173)
        seen_no = {"scores": 0, "ladders": 0, "blur": 0, "market": 0}
        for _ in range(500):
            one, other = pair_of_shares(maker)
            words = Words(one, other)
            names = [paper[0] for paper in turn.tour(one, other)]
            alike = total(one) == total(other) and not words.no("table", ("moment",))
            score = tuple(piece for piece in maker.score(6) if piece[0] == "mark")
            near = tuple(maker.fraction() for _ in one)
            for side, thing in (("scores", score), ("ladders", (maker.ladder(), maker.fraction())),
                                ("blur", maker.decision()),
                                ("market", (near, maker.fractions(len(other)), near[::-1]))):
                if side not in names:
                    continue
                holds = words.no(side, thing) and (alike or side == "market")
                paper = (side, "no", thing)
                if not holds:
                    with self.assertRaises(BadPaper) as caught:
                        sides.check_side(one, other, paper)
                    self.assertEqual(caught.exception.part, side)
                    continue
                seen_no[side] += 1
                self.assertEqual(sides.check_side(one, other, paper), "no")
                found = hub.hub_of(one, other, paper)
                self.assertEqual(rests.check_wider(one, other, found), found[0])
                for later in names:
                    there = turn.turned(one, other, paper, later)
                    self.assertEqual(sides.check_side(one, other, there), "no")
        self.assertGreater(min(seen_no.values()), 8)

    def test_scores_with_stretches(self):
        maker = Maker(175)
        seen_less = 0
        for _ in range(300):
            other, one = maker.two(3)
            if maker.below(3) == 0:
                other = maker.alike(one)
            score = maker.score(4)
            less = worth(sees(score, other)) < worth(sees(score, one))
            alike = not (Words(one, other).no("table", ("total",))
                         or Words(one, other).no("table", ("moment",)))
            paper = ("scores", "no", score)
            if not (less and alike):
                with self.assertRaises(BadPaper) as caught:
                    hub.hub_of(one, other, paper)
                self.assertEqual(caught.exception.part, "scores")
                continue
            seen_less += any(piece[0] == "stretch" for piece in score)
            word, mark = hub.hub_of(one, other, paper)
            self.assertEqual(word, "mark")
            self.assertLess(rest(other, worth(mark)), rest(one, worth(mark)))
            self.assertTrue(any(mark == piece[1] if piece[0] == "mark" else
                                worth(piece[1]) <= worth(mark) <= worth(piece[2]) for piece in score))
        self.assertGreater(seen_less, 40)

    def test_views_of_any_world(self):
        maker = Maker(174)
        seen_wide = 0
        for _ in range(200):
            world = maker.world(6)
            view, finer = maker.view(len(world)), maker.view(len(world))
            one, other = share_of(world, view), share_of(world, finer)
            paper = ("views", "yes", (world, view, finer))
            if not is_finer(world, finer, view):
                self.assertRaises(BadPaper, sides.check_side, one, other, paper)
                continue
            seen_wide += 1
            self.assertEqual(sides.check_side(one, other, paper), "yes")
            found = hub.hub_of(one, other, paper)
            self.assertEqual(rests.check_wider(one, other, found), "table")
        self.assertGreater(seen_wide, 40)

    def test_six_by_six_with_60_figures(self):
        big = 10 ** 59
        numbers = [Fraction(big * at + at * at, big - 3 * at) for at in range(6)]
        parts = [Fraction(big + at, 6 * big + 7 * at) for at in range(5)]
        weights = parts + [1 - sum(parts)]
        mean = sum(number * weight for number, weight in zip(numbers, weights))
        other = tuple((pair_of(number), pair_of(weight)) for number, weight in zip(numbers, weights))
        half = Fraction(big // 2 + 1, big)
        near = [half * number + (1 - half) * mean for number in numbers]
        one = tuple((pair_of(number), pair_of(weight)) for number, weight in zip(near, weights))
        for pair, answer in (((one, other), "yes"), ((other, one), "no")):
            for paper in turn.tour(*pair):
                self.assertEqual(sides.check_side(*pair, paper), answer)
                self.assertEqual(sides.check_side(*pair, turn.turned(*pair, paper, "views")), answer)


if __name__ == "__main__":
    unittest.main()
