"""What can be between; KNOWN SHARES, CLAIMS, HOLDINGS; LEAST and GREATEST MEANS."""

import unittest
from fractions import Fraction
from itertools import product

from forehouse import between, bounds, holdings, known
from forehouse.errors import (BadClaim, BadFair, BadHolding, BadKnown, BadPaper, BadShare, BadView,
                              TooMany)
from forehouse.fairshares import fair_by
from forehouse.ordersback import all_views
from forehouse.rests import is_wider
from forehouse.rewards import greatest_value, least_value
from forehouse.views import is_finer, share_of
from tests.makers import Maker, pair_of, share_of_integers, whole, world_of_integers, worth
from tests.wrongs import CLAIMS, FAIRS, HOLDINGS, KNOWNS, ODD, SHARES

ONE = share_of_integers((-1, 4), (1, 4))
WIDE = share_of_integers((-2, 3), (0, 2), (2, 3))
PAIR = (ONE, WIDE)
# One NUMBER; two; three: three times two rows.
THREE = (share_of_integers((0, 4)), share_of_integers((-1, 2), (1, 2)),
         share_of_integers((-2, 1), (0, 2), (2, 1)))


def mean(some, fair, claim):
    """The MEAN by the words of the document."""
    paid = dict(zip(known.rows_of(some), claim))
    total = sum(worth(weight) for _, weight in some[0])
    return sum((worth(weight) * paid[path] for path, weight in fair), Fraction(0)) / total


def pays(some, holding):
    """What a HOLDING PAYS by the words of the document."""
    held, deals = holding
    dealt = dict(zip(known.beginnings(some), deals))
    out = []
    for row in product(*[[number for number, _ in share] for share in some]):
        paid = Fraction(0)
        for day, number in enumerate(row):
            place = [near for near, _ in some[day]].index(number)
            paid += worth(held[day][place])
            if day > 0:
                paid += worth(dealt[row[:day]]) * (worth(number) - worth(row[day - 1]))
        out.append(paid)
    return out


def cost(some, holding):
    total = sum(worth(weight) for _, weight in some[0])
    return sum(worth(weight) * worth(part) for share, parts in zip(some, holding[0])
               for (_, weight), part in zip(share, parts)) / total


def any_holding(maker, some):
    held = tuple(maker.fractions(len(share)) for share in some)
    return (held, maker.fractions(len(known.beginnings(some))))


class BetweenTest(unittest.TestCase):

    def test_shares(self):
        low = share_of_integers((0, 8))
        self.assertIs(between.can_be_between(low, ONE, WIDE), True)
        self.assertIs(between.can_be_between(ONE, ONE, WIDE), True)
        self.assertIs(between.can_be_between(ONE, WIDE, WIDE), True)
        self.assertIs(between.can_be_between(ONE, ONE, ONE), True)
        self.assertIs(between.can_be_between(ONE, low, WIDE), False)
        self.assertIs(between.can_be_between(low, WIDE, ONE), False)
        self.assertIs(between.can_be_between(WIDE, ONE, low), False)
        maker = Maker(90)
        for _ in range(200):
            one, share = maker.two(2)
            other = maker.pick((maker.wider(one), share, one, maker.share(2)))
            self.assertIs(between.can_be_between(one, share, other), is_wider(share, other))
            self.assertIs(between.can_be_between(share, one, other),
                          is_wider(share, one) and is_wider(one, other))

    def test_views_by_hand(self):
        world = world_of_integers((1, 0), (1, 2), (1, 4), (1, 6))
        each, one = ((0,), (1,), (2,), (3,)), ((0, 1, 2, 3),)
        halves = ((0, 1), (2, 3))
        share = share_of_integers((1, 2), (5, 2))
        self.assertEqual(between.view_between(world, one, each, share), halves)
        self.assertEqual(between.view_between(world, halves, each, share), halves)
        self.assertEqual(between.view_between(world, one, halves, share), halves)
        self.assertIsNone(between.view_between(world, ((0, 2), (1, 3)), each, share))
        same = share_of_integers((3, 4))
        # Of two with this SHARE the first one.
        self.assertEqual(between.view_between(world, one, each, same), one)
        self.assertEqual(between.view_between(world, one, ((0, 3), (1, 2)), same), one)
        self.assertEqual(between.view_between(world, ((0, 3), (1, 2)), ((0, 3), (1, 2)), same),
                         ((0, 3), (1, 2)))
        with self.assertRaises(BadView) as caught:
            between.view_between(world, halves, one, None)
        self.assertIs(caught.exception.given, one)

    def test_views_by_the_words(self):
        maker = Maker(91)
        found = 0
        for _ in range(120):
            world = tuple((whole(maker.between(1, 2)), whole(maker.between(0, 2)))
                          for _ in range(maker.between(1, 5)))
            views = all_views(world)
            row = maker.row(len(world))
            view, other = row[0], row[-1]
            share = share_of(world, maker.pick(views))
            wanted = [middle for middle in views if share_of(world, middle) == share
                      and is_finer(world, middle, view) and is_finer(world, other, middle)]
            told = between.view_between(world, view, other, share)
            self.assertEqual(told, min(wanted) if wanted else None)
            found += told is not None
        self.assertGreater(found, 30)

    def test_seven_cells_and_eight(self):
        world = world_of_integers(*[(1, at) for at in range(8)])
        each = tuple((at,) for at in range(8))
        seven = each[:6] + ((6, 7),)
        one = (tuple(range(8)),)
        share = (((5, 2), (6, 1)), ((13, 2), (2, 1)))
        told = between.view_between(world, one, seven, share)
        self.assertEqual(share_of(world, told), share)
        with self.assertRaises(TooMany) as caught:
            between.view_between(world, one, each, share)
        self.assertEqual(caught.exception.most, 7)
        self.assertRaises(BadShare, between.view_between, world, one, each, None)


class KnownTest(unittest.TestCase):

    def test_need_known(self):
        six = share_of_integers(*[(at, 1) for at in range(6)])
        for some in ((ONE,), PAIR, THREE, (ONE, ONE, ONE), (six, six)):
            self.assertIs(known.need_known(some), some)
        self.assertEqual(len(known.rows_of((six, six))), 36)
        seven = share_of_integers((0, 7))
        calls = ((known.need_known, 0), (known.rows_of, 0), (known.beginnings, 0),
                 (known.is_fair_of, 1), (known.need_claim, 1), (known.mean_by, 2),
                 (holdings.pays, 1), (holdings.cost, 1), (bounds.least_mean, 1),
                 (bounds.greatest_mean, 1), (bounds.least_means_paper, 1),
                 (bounds.greatest_means_paper, 1), (bounds.check_least_mean, 2),
                 (bounds.check_greatest_mean, 2))
        for thing in ODD + KNOWNS + ((seven, ONE),) + tuple((bad,) for bad in SHARES):
            for call, more in calls:
                with self.assertRaises(BadKnown) as caught:
                    call(thing, *[None] * more)
                self.assertIs(caught.exception.given, thing)

    def test_refused_whatever_is_asked_of_it(self):
        one = (((0, 1), (1, 1)),)
        other = (((-4, 1), (1, 2)), ((4, 1), (1, 2)))
        six = share_of_integers(*[(at, 1) for at in range(6)])
        self.assertEqual(known.need_known((one, other)), (one, other))
        # Not WIDER, too many rows, both; something wrong in what has too many rows.
        for some in ((one, other, one), (other, one), (six, six, six), (six, one, six),
                     (six, six[::-1], six), (six, six, six[:5] + (None,)), (six, (None,) * 6),
                     (one, other + other), (other, [one]), (one, None), (one, ()), (six, six[:3])):
            with self.assertRaises(BadKnown) as caught:
                known.need_known(some)
            self.assertIs(caught.exception.given, some)
        middle = share_of_integers((-1, 3), (1, 3))
        three = share_of_integers((-2, 3), (2, 3))
        self.assertIs(known.need_known((middle, three))[1], three)
        self.assertEqual(len(known.rows_of((middle, middle, three))), 8)

    def test_36_rows_and_more(self):
        # 1 times 6 times 6 rows are 36; 2 times 4 times 5 are 40.
        one = share_of_integers((0, 6))
        six = share_of_integers(*[(at, 1) for at in (-5, -3, -1, 1, 3, 5)])
        self.assertEqual(len(known.rows_of((one, six, six))), 36)
        four = share_of_integers((-6, 4), (-2, 4), (2, 4), (6, 4))
        five = share_of_integers((-8, 2), (-4, 4), (0, 4), (4, 4), (8, 2))
        self.assertTrue(is_wider(four, five))
        low = share_of_integers((-4, 8), (4, 8))
        self.assertTrue(is_wider(low, four))
        with self.assertRaises(BadKnown):
            known.need_known((low, four, five))
        self.assertEqual(len(known.rows_of((low, four))), 8)
        self.assertEqual(len(known.rows_of((four, five))), 20)

    def test_rows_and_beginnings_by_hand(self):
        self.assertEqual(known.rows_of((ONE,)), ((whole(-1),), (whole(1),)))
        self.assertEqual(known.beginnings((ONE,)), ())
        self.assertEqual(known.rows_of(PAIR), tuple(
            (whole(near), whole(far)) for near in (-1, 1) for far in (-2, 0, 2)))
        self.assertEqual(known.beginnings(PAIR), ((whole(-1),), (whole(1),)))
        self.assertEqual(known.rows_of(THREE), tuple(
            (whole(0), whole(near), whole(far)) for near in (-1, 1) for far in (-2, 0, 2)))
        self.assertEqual(known.beginnings(THREE), (
            (whole(0),), (whole(0), whole(-1)), (whole(0), whole(1))))
        two = (ONE, ONE, ONE)
        # As tuples: each ahead of those that begin with it.
        self.assertEqual(known.beginnings(two), (
            (whole(-1),), (whole(-1), whole(-1)), (whole(-1), whole(1)),
            (whole(1),), (whole(1), whole(-1)), (whole(1), whole(1))))

    def test_is_fair_of(self):
        fair = fair_by(PAIR)
        self.assertIs(known.is_fair_of(PAIR, fair), True)
        self.assertIs(known.is_fair_of((ONE,), fair), False)
        self.assertIs(known.is_fair_of((ONE, ONE), fair), False)
        self.assertIs(known.is_fair_of((WIDE, WIDE), fair), False)
        doubled = tuple((path, pair_of(2 * worth(weight))) for path, weight in fair)
        self.assertIs(known.is_fair_of(PAIR, doubled), False)
        for thing in ODD + FAIRS:
            self.assertIs(known.is_fair_of(PAIR, thing), False)
            with self.assertRaises(BadFair) as caught:
                known.mean_by(PAIR, thing, None)
            self.assertIs(caught.exception.given, thing)
        with self.assertRaises(BadFair) as caught:
            known.mean_by(PAIR, doubled, None)
        self.assertIs(caught.exception.given, doubled)

    def test_claims(self):
        for claim in ((0,) * 6, (10 ** 6, -10 ** 6, 1, 2, 3, 4)):
            self.assertIs(known.need_claim(PAIR, claim), claim)
        for thing in ODD + CLAIMS:
            with self.assertRaises(BadClaim) as caught:
                known.need_claim(PAIR, thing)
            self.assertIs(caught.exception.given, thing)
        # Of 8 the STEPS from -1: 3 to -2, 1 to 2 ..; or 2 to -2 and 2 to 0.
        fair = fair_by(PAIR)
        self.assertEqual(known.mean_by(PAIR, fair, (8, 8, 8, 0, 0, 0)), (4, 1))
        self.assertEqual(known.mean_by(PAIR, fair, (1,) * 6), (1, 1))

    def test_means_by_the_words(self):
        maker = Maker(93)
        for _ in range(100):
            some = maker.known()
            claim = maker.claim(some)
            fair = fair_by(some)
            self.assertEqual(known.mean_by(some, fair, claim), pair_of(mean(some, fair, claim)))


class HoldingsTest(unittest.TestCase):

    def test_by_hand(self):
        holding = (((whole(1), whole(2)), (whole(10), whole(20), whole(30))), (whole(5), whole(-5)))
        # From -1 to -2: 1 and 10, less 5; to 0: 1 and 20 and 5; to 2: 1 and 30 and 15.
        self.assertEqual(holdings.pays(PAIR, holding),
                         tuple(whole(part) for part in (6, 26, 46, 27, 27, 27)))
        # 4 and 8, 30 and 40 and 90, divided by 8.
        self.assertEqual(holdings.cost(PAIR, holding), (43, 2))
        single = (((whole(1), whole(2)),), ())
        self.assertEqual(holdings.pays((ONE,), single), (whole(1), whole(2)))
        self.assertEqual(holdings.cost((ONE,), single), (3, 2))

    def test_wrong_holdings(self):
        for thing in ODD + HOLDINGS:
            for call in (holdings.pays, holdings.cost):
                with self.assertRaises(BadHolding) as caught:
                    call(PAIR, thing)
                self.assertIs(caught.exception.given, thing)

    def test_by_the_words(self):
        maker = Maker(94)
        for _ in range(100):
            some = maker.known()
            holding = any_holding(maker, some)
            told = holdings.pays(some, holding)
            self.assertEqual(list(told), [pair_of(part) for part in pays(some, holding)])
            self.assertEqual(holdings.cost(some, holding), pair_of(cost(some, holding)))
            # What it PAYS has its COST as MEAN.
            for fair in (fair_by(some), bounds.least_means_paper(some, maker.claim(some))[0]):
                paid = [worth(part) for part in told]
                self.assertEqual(mean(some, fair, paid), cost(some, holding))


class BoundsTest(unittest.TestCase):

    def test_by_hand(self):
        # Whether it goes from -1 to 2: at most 1 of the 4, as 3 go to -2 then; at least 0.
        claim = (0, 0, 8, 0, 0, 0)
        self.assertEqual(bounds.least_mean(PAIR, claim), (0, 1))
        self.assertEqual(bounds.greatest_mean(PAIR, claim), (1, 1))
        # One SHARE: all is told.
        self.assertEqual(bounds.least_mean((ONE,), (2, 6)), (4, 1))
        self.assertEqual(bounds.greatest_mean((ONE,), (2, 6)), (4, 1))
        self.assertEqual(bounds.greatest_mean((ONE, ONE), (1, 9, 9, 2)), (3, 2))
        self.assertEqual(bounds.least_mean(THREE, (5,) * 6), (5, 1))

    def test_papers(self):
        maker = Maker(95)
        apart = 0
        for _ in range(150):
            some = maker.known()
            claim = maker.claim(some)
            low, high = bounds.least_mean(some, claim), bounds.greatest_mean(some, claim)
            self.assertLessEqual(worth(low), worth(high))
            apart += low != high
            for paper, check, side, value in (
                    (bounds.least_means_paper(some, claim), bounds.check_least_mean, -1, low),
                    (bounds.greatest_means_paper(some, claim), bounds.check_greatest_mean, 1, high)):
                self.assertEqual(check(some, claim, paper), value)
                fair, holding = paper
                self.assertIs(known.is_fair_of(some, fair), True)
                self.assertEqual(mean(some, fair, claim), worth(value))
                self.assertEqual(cost(some, holding), worth(value))
                for paid, part in zip(pays(some, holding), claim):
                    self.assertGreaterEqual(side * (paid - part), 0)
            other = mean(some, fair_by(some), claim)
            self.assertLessEqual(worth(low), other)
            self.assertLessEqual(other, worth(high))
            if len(some) == 2:
                total = sum(worth(weight) for _, weight in some[0])
                many = len(some[1])
                reward = tuple(claim[at:at + many] for at in range(0, len(claim), many))
                self.assertEqual(worth(least_value(some[0], some[1], reward)) / total, worth(low))
                self.assertEqual(worth(greatest_value(some[0], some[1], reward)) / total, worth(high))
        self.assertGreater(apart, 30)

    def test_which_papers_hold(self):
        claim = (0, 0, 8, 0, 0, 0)
        for paper, check, more in (
                (bounds.least_means_paper(PAIR, claim), bounds.check_least_mean, -1),
                (bounds.greatest_means_paper(PAIR, claim), bounds.check_greatest_mean, 1)):
            fair, holding = paper
            for thing in ODD + FAIRS + (fair_by((ONE, ONE)),):
                self.refuse(check, claim, (thing, None), "fair")
            for thing in ODD + HOLDINGS:
                self.refuse(check, claim, (fair, thing), "holding")
            for thing in ((), (fair,), (fair, holding, 0), [fair, holding], None, 7, "ab"):
                self.refuse(check, claim, thing, "form")
            held, deals = holding
            # Less on the one side, more COST on the other.
            worse = pair_of(worth(held[0][0]) - more)
            self.refuse(check, claim, (fair, (((worse, held[0][1]), held[1]), deals)), "holding")
            dear = pair_of(worth(held[0][0]) + more)
            self.refuse(check, claim, (fair, (((dear, held[0][1]), held[1]), deals)), "cost")
        far = bounds.least_means_paper(PAIR, claim)[0]
        self.refuse(bounds.check_greatest_mean, claim,
                    (far, bounds.greatest_means_paper(PAIR, claim)[1]), "cost")

    def refuse(self, check, claim, paper, part):
        with self.assertRaises(BadPaper) as caught:
            check(PAIR, claim, paper)
        self.assertEqual(caught.exception.part, part)

    def test_great_claims(self):
        claim = (10 ** 6, -10 ** 6, 10 ** 6, -10 ** 6, 10 ** 6, -10 ** 6)
        paper = bounds.greatest_means_paper(THREE, claim)
        self.assertEqual(bounds.check_greatest_mean(THREE, claim, paper),
                         bounds.greatest_mean(THREE, claim))

    def test_numbers_of_60_figures(self):
        big = 10 ** 59
        low, far = Fraction(-big - 7, big + 3), Fraction(big + 9, big - 1)
        middle = Fraction(big + 1, 3 * big - 1)
        weights = (Fraction(big + 21, big + 2), Fraction(3, big + 7))
        rows = {}
        for at, (near, weight) in enumerate(zip((Fraction(0), Fraction(1, 9)), weights)):
            rows.setdefault(near, []).append((low, weight * (far - near) / (far - low)))
            rows[near].append((far, weight * (near - low) / (far - low)))
            if at:
                rows[near].append((middle, Fraction(0)))
        one = tuple((pair_of(near), pair_of(sum(part for _, part in rows[near]))) for near in rows)
        ends = {}
        for near in rows:
            for end, part in rows[near]:
                ends[end] = ends.get(end, 0) + part
        other = tuple((pair_of(end), pair_of(ends[end])) for end in sorted(ends) if ends[end])
        some = (one, other)
        claim = (1, -2, 3, 5)
        paper = bounds.greatest_means_paper(some, claim)
        self.assertEqual(bounds.check_greatest_mean(some, claim, paper),
                         bounds.greatest_mean(some, claim))


if __name__ == "__main__":
    unittest.main()
