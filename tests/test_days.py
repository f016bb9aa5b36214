"""ROWS of VIEWS, PATHS, FAIR SHARES, CHAINS of TABLES, and the WORLDS told back."""

import unittest
from fractions import Fraction

from forehouse import dayviews, fairshares, ownviews, tellback
from forehouse.errors import (BadDay, BadFair, BadRow, BadShare, BadState, BadWorld, NotWider,
                              TooMany)
from forehouse.lefts import left_table
from forehouse.rests import check_wider, is_wider
from forehouse.shares import is_share
from forehouse.tables import behind, goes_between, need_table, right_share
from forehouse.views import forecasts, is_finer, share_of
from tests.makers import (Maker, is_wider_by_rests, pair_of, share_of_integers, whole,
                          world_of_integers, worth)
from tests.wrongs import CHAINS, FAIRS, ODD, ROWS, SHARES, SOME_SHARES

# Four STATES: all have the mean 3; two each have 1 and 5.
WORLD = world_of_integers((1, 0), (1, 2), (1, 4), (1, 6))
ALL = ((0, 1, 2, 3),)
HALVES = ((0, 1), (2, 3))
EACH = ((0,), (1,), (2,), (3,))
ROW = (ALL, HALVES, EACH)
THREE = world_of_integers((1, 0), (1, 1), (1, 2))


def path(*numbers):
    return tuple(whole(number) for number in numbers)


FAIR = ((path(3, 1, 0), (1, 1)), (path(3, 1, 2), (1, 1)), (path(3, 5, 4), (1, 1)),
        (path(3, 5, 6), (1, 1)))


def keys(fair):
    return [[worth(number) for number in row] for row, _ in fair]


def is_fair(fair):
    """FAIR by the words of the document."""
    days = len(fair[0][0])
    for day in range(days - 1):
        for row, _ in fair:
            alike = [(worth(other[day + 1]), worth(weight)) for other, weight in fair
                     if other[:day + 1] == row[:day + 1]]
            total = sum(weight for _, weight in alike)
            if sum(number * weight for number, weight in alike) != total * worth(row[day]):
                return False
    return keys(fair) == sorted(keys(fair)) and len(set(row for row, _ in fair)) == len(fair)


class RowsTest(unittest.TestCase):

    def test_need_row(self):
        for row in (ROW, (ALL,), (EACH, EACH, EACH), (ALL, EACH), (HALVES, HALVES)):
            self.assertIs(dayviews.need_row(WORLD, row), row)
        self.assertEqual(dayviews.need_row(WORLD[:1], (((0,),),)), (((0,),),))
        for thing in ODD + ROWS:
            for call in (dayviews.need_row, dayviews.fair_of, ownviews.own_views, ownviews.is_own):
                with self.assertRaises(BadRow) as caught:
                    call(THREE, thing)
                self.assertIs(caught.exception.given, thing)
            with self.assertRaises(BadRow):
                dayviews.path_of(THREE, thing, None)

    def test_paths_by_hand(self):
        self.assertEqual([dayviews.path_of(WORLD, ROW, state) for state in range(4)],
                         [path(3, 1, 0), path(3, 1, 2), path(3, 5, 4), path(3, 5, 6)])
        self.assertEqual(dayviews.path_of(WORLD, (HALVES,), 2), path(5))
        for state in (4, -1, None, True, (0,)):
            with self.assertRaises(BadState) as caught:
                dayviews.path_of(WORLD, ROW, state)
            self.assertIs(caught.exception.given, state)
        self.assertRaises(BadWorld, dayviews.path_of, None, None, None)

    def test_fair_shares_by_hand(self):
        self.assertEqual(dayviews.fair_of(WORLD, ROW), FAIR)
        self.assertEqual(dayviews.fair_of(WORLD, (ALL, HALVES)),
                         ((path(3, 1), (2, 1)), (path(3, 5), (2, 1))))
        self.assertEqual(dayviews.fair_of(WORLD, (ALL,) * 3), ((path(3, 3, 3), (4, 1)),))
        # Two CELLS with the same FORECAST have one PATH.
        cross = ((0, 3), (1, 2))
        self.assertEqual(dayviews.fair_of(WORLD, (ALL, cross)), ((path(3, 3), (4, 1)),))
        self.assertEqual(dayviews.fair_of(WORLD, (cross, EACH)), tuple(
            (path(3, at), (1, 1)) for at in (0, 2, 4, 6)))

    def test_36_states(self):
        world = tuple((whole(1), whole(at)) for at in range(36))
        each = tuple((at,) for at in range(36))
        fair = dayviews.fair_of(world, (each, each, each))
        self.assertEqual(fair, tuple((path(at, at, at), (1, 1)) for at in range(36)))
        self.assertIs(fairshares.need_fair(fair), fair)

    def test_by_the_words(self):
        maker = Maker(80)
        for _ in range(150):
            world = maker.world(8)
            row = maker.row(len(world))
            dayviews.need_row(world, row)
            paths = [dayviews.path_of(world, row, state) for state in range(len(world))]
            self.assertEqual([list(day) for day in zip(*paths)],
                             [list(forecasts(world, view)) for view in row])
            weights = {}
            for one, (weight, _) in zip(paths, world):
                weights[one] = weights.get(one, Fraction(0)) + worth(weight)
            fair = dayviews.fair_of(world, row)
            self.assertEqual(dict(fair), {one: pair_of(weights[one]) for one in weights})
            self.assertTrue(is_fair(fair))
            self.assertIs(fairshares.need_fair(fair), fair)
            for day, view in enumerate(row):
                share = {number: Fraction(0) for number in forecasts(world, view)}
                if len(share) <= 6:
                    self.assertEqual(fairshares.day_share(fair, day), share_of(world, view))
                else:
                    self.assertRaises(TooMany, fairshares.day_share, fair, day)


class OwnTest(unittest.TestCase):

    def test_by_hand(self):
        self.assertEqual(ownviews.own_views(WORLD, ROW), ROW)
        self.assertIs(ownviews.is_own(WORLD, ROW), True)
        cross = ((0, 3), (1, 2))
        self.assertEqual(ownviews.own_views(WORLD, (cross, EACH)), (ALL, EACH))
        self.assertIs(ownviews.is_own(WORLD, (cross, EACH)), False)
        self.assertEqual(ownviews.own_views(WORLD, (ALL, cross, cross)), (ALL, ALL, ALL))
        self.assertEqual(ownviews.own_views(WORLD, (HALVES,)), (HALVES,))
        # What was apart on one day stays so, though all FORECASTS were the same again.
        world = world_of_integers((1, 0), (1, 2), (1, 1), (1, 1))
        self.assertEqual(ownviews.own_views(world, (((0, 1), (2, 3)), EACH)),
                         (ALL, ((0,), (1,), (2, 3))))

    def test_facts(self):
        maker = Maker(81)
        owned = 0
        for _ in range(200):
            world = maker.world(7)
            row = maker.row(len(world))
            own = ownviews.own_views(world, row)
            dayviews.need_row(world, own)
            self.assertEqual(dayviews.fair_of(world, own), dayviews.fair_of(world, row))
            for state in range(len(world)):
                self.assertEqual(dayviews.path_of(world, own, state),
                                 dayviews.path_of(world, row, state))
            for view, wide in zip(row, own):
                self.assertIs(is_finer(world, view, wide), True)
            self.assertEqual(ownviews.is_own(world, row), own == row)
            self.assertIs(ownviews.is_own(world, own), True)
            owned += own == row
        self.assertGreater(owned, 20)
        self.assertLess(owned, 190)


class FairTest(unittest.TestCase):

    def test_need_fair(self):
        # 36 PATHS, and one more.
        many = tuple((path(at), (1, 1)) for at in range(36))
        for fair in (FAIR, many, ((path(1), (1, 3)),), ((path(0, -1, -1), (1, 1)),
                                                       (path(0, 1, 1), (1, 1)))):
            self.assertIs(fairshares.need_fair(fair), fair)
        self.assertRaises(BadFair, fairshares.need_fair, many + ((path(36), (1, 1)),))
        calls = ((fairshares.need_fair, 0), (fairshares.many_days, 0), (fairshares.day_share, 1),
                 (fairshares.day_table, 1), (fairshares.leave_out, 1), (tellback.world_of, 0),
                 (tellback.row_of, 0))
        for thing in ODD + FAIRS:
            for call, more in calls:
                with self.assertRaises(BadFair) as caught:
                    call(thing, *[None] * more)
                self.assertIs(caught.exception.given, thing)

    def test_fair_exactly_by_the_words(self):
        maker = Maker(82)
        seen = [0, 0]
        for _ in range(500):
            fair = list(maker.fair(5))
            for _ in range(maker.below(3)):
                at = maker.below(len(fair))
                row, weight = fair[at]
                if maker.below(2):
                    fair[at] = (row, maker.pick(((1, 1), (2, 1), weight)))
                else:
                    day = maker.below(len(row))
                    fair[at] = (row[:day] + (whole(maker.below(3)),) + row[day + 1:], weight)
            fair = tuple(fair)
            fits = is_fair(fair)
            seen[fits] += 1
            if fits:
                self.assertIs(fairshares.need_fair(fair), fair)
            else:
                self.assertRaises(BadFair, fairshares.need_fair, fair)
        self.assertGreater(min(seen), 100)

    def test_order_is_by_worth(self):
        low, high = ((1, 3), (1, 1)), ((1, 2), (1, 1))
        fair = (((low[0],), (1, 1)), ((high[0],), (1, 1)))
        self.assertIs(fairshares.need_fair(fair), fair)
        self.assertRaises(BadFair, fairshares.need_fair, fair[::-1])
        # The WEIGHTS do not matter for it.
        fair = ((path(-10), (5, 1)), (path(-9), (1, 1)), (path(2), (3, 1)))
        self.assertIs(fairshares.need_fair(fair), fair)

    def test_days_by_hand(self):
        self.assertEqual(fairshares.many_days(FAIR), 3)
        self.assertEqual(fairshares.many_days(((path(1), (1, 3)),)), 1)
        self.assertEqual(fairshares.day_share(FAIR, 0), share_of_integers((3, 4)))
        self.assertEqual(fairshares.day_share(FAIR, 1), share_of_integers((1, 2), (5, 2)))
        self.assertEqual(fairshares.day_table(FAIR, 0),
                         tuple((whole(3), whole(far), whole(2)) for far in (1, 5)))
        self.assertEqual(fairshares.day_table(FAIR, 1), (
            path(1, 0, 1), path(1, 2, 1), path(5, 4, 1), path(5, 6, 1)))
        self.assertEqual(fairshares.leave_out(FAIR, 2), (
            (path(3, 1), (2, 1)), (path(3, 5), (2, 1))))
        self.assertEqual(fairshares.leave_out(FAIR, 1), tuple(
            (path(3, at), (1, 1)) for at in (0, 2, 4, 6)))
        self.assertEqual(fairshares.leave_out(FAIR, 0), tuple((row[1:], weight)
                                                              for row, weight in FAIR))

    def test_wrong_days(self):
        one = ((path(1), (1, 3)),)
        for thing in ODD + (3, -1, 10 ** 30, (0,), "0"):
            for call in (fairshares.day_share, fairshares.day_table, fairshares.leave_out):
                with self.assertRaises(BadDay) as caught:
                    call(FAIR, thing)
                self.assertIs(caught.exception.given, thing)
        for call, fair, day in ((fairshares.day_table, FAIR, 2), (fairshares.leave_out, one, 0),
                                (fairshares.day_table, one, 0), (fairshares.leave_out, one, 1)):
            with self.assertRaises(BadDay) as caught:
                call(fair, day)
            self.assertEqual(caught.exception.given, day)

    def test_six_numbers_of_a_day_and_seven(self):
        six = tuple((path(0, at), (1, 1)) for at in (-3, -2, -1, 1, 2, 3))
        self.assertEqual(len(fairshares.day_share(six, 1)), 6)
        self.assertEqual(len(fairshares.day_table(six, 0)), 6)
        seven = tuple((path(0, at, at), (1, 1)) for at in range(-3, 4))
        self.assertEqual(fairshares.day_share(seven, 0), share_of_integers((0, 7)))
        for call, day in ((fairshares.day_share, 1), (fairshares.day_share, 2),
                          (fairshares.day_table, 0), (fairshares.day_table, 1)):
            with self.assertRaises(TooMany) as caught:
                call(seven, day)
            self.assertEqual(caught.exception.most, 6)
        # Seven on the first day alone.
        first = tuple((path(at, 9 * side), (9 + at * side, 1))
                      for at in range(7) for side in (-1, 1))
        self.assertEqual(fairshares.day_share(first, 1), share_of_integers((-9, 42), (9, 84)))
        self.assertRaises(TooMany, fairshares.day_table, first, 0)
        middle = tuple(((whole(3),) + row, weight) for row, weight in first)
        self.assertEqual(len(fairshares.day_share(middle, 2)), 2)
        for day in (0, 1):
            self.assertRaises(TooMany, fairshares.day_table, middle, day)

    def test_days_by_the_words(self):
        maker = Maker(83)
        for _ in range(200):
            fair = maker.fair()
            days = fairshares.many_days(fair)
            self.assertEqual(days, len(fair[0][0]))
            shares = [fairshares.day_share(fair, day) for day in range(days)]
            for day in range(days):
                weights = {}
                for row, weight in fair:
                    weights[row[day]] = weights.get(row[day], 0) + worth(weight)
                self.assertEqual({number: worth(weight) for number, weight in shares[day]}, weights)
                if days > 1:
                    less = fairshares.leave_out(fair, day)
                    self.assertTrue(is_fair(less))
                    self.assertEqual(fairshares.many_days(less), days - 1)
                    left = [shares[at] for at in range(days) if at != day]
                    self.assertEqual([fairshares.day_share(less, at) for at in range(days - 1)], left)
            for day in range(days - 1):
                table = fairshares.day_table(fair, day)
                need_table(table)
                self.assertTrue(goes_between(shares[day], shares[day + 1], table))
                self.assertTrue(is_wider_by_rests(shares[day], shares[day + 1]))
                for near, far, weight in table:
                    same = [worth(part) for row, part in fair if row[day:day + 2] == (near, far)]
                    self.assertEqual(worth(weight), sum(same))


class ChainsTest(unittest.TestCase):

    def test_by_hand(self):
        first = (path(0, -2, 1), path(0, 2, 1))
        second = ((whole(-2), whole(-4), (1, 2)), (whole(-2), whole(0), (1, 2)),
                  (whole(2), whole(2), (1, 1)))
        self.assertEqual(fairshares.chained((first,)), ((path(0, -2), (1, 1)), (path(0, 2), (1, 1))))
        self.assertEqual(fairshares.chained((first, second)), (
            (path(0, -2, -4), (1, 2)), (path(0, -2, 0), (1, 2)), (path(0, 2, 2), (1, 1))))

    def test_wrong_chains(self):
        for thing in ODD + CHAINS:
            with self.assertRaises(BadRow) as caught:
                fairshares.chained(thing)
            self.assertIs(caught.exception.given, thing)

    def test_36_paths_and_37(self):
        ends = (-20, -10, 0, 10, 20)
        for far_ones, many in (((), 35), ((0,), 36), ((0, 1), 37), ((-2, -1, 0, 1, 2), 40)):
            steps = {(near, far): Fraction(1, 5) + Fraction(near * far, 1000)
                     for near in (-2, -1, 0, 1, 2) for far in ends}
            for near in far_ones:
                steps[(near, 100)] = Fraction(1)
                steps[(near, -20)] += Fraction(100 - near, near + 20)
            first = tuple((whole(near), whole(far), pair_of(steps[(near, far)]))
                          for near, far in sorted(steps))
            second = []
            for number, weight in right_share(first):
                parts = {(0, 1): ((-10, 1), (0, 2), (10, 1))}.get(number, ((number[0], 4),))
                second.extend((number, whole(far), pair_of(worth(weight) * part / 4))
                              for far, part in parts)
            chain = (first, need_table(tuple(second)))
            if many > 36:
                with self.assertRaises(TooMany) as caught:
                    fairshares.chained(chain)
                self.assertEqual(caught.exception.most, 36)
            else:
                fair = fairshares.chained(chain)
                self.assertEqual(len(fair), many)
                self.assertTrue(is_fair(fair))

    def test_by_the_words(self):
        maker = Maker(85)
        for _ in range(100):
            one, middle = maker.two(3)
            other = maker.wider(middle)
            chain = (left_table(one, middle), left_table(middle, other))[:maker.between(1, 2)]
            fair = fairshares.chained(chain)
            self.assertTrue(is_fair(fair))
            fairshares.need_fair(fair)
            for day, table in enumerate(chain):
                self.assertEqual(fairshares.day_table(fair, day), table)
            if len(chain) == 2:
                weights = dict(middle)
                steps = [{(near, far): worth(weight) for near, far, weight in table}
                         for table in chain]
                for (near, at, far), weight in fair:
                    product = steps[0][(near, at)] * steps[1][(at, far)] / worth(weights[at])
                    self.assertEqual(worth(weight), product)
                rows = {(near, at, far) for near, at in steps[0] for start, far in steps[1]
                        if start == at}
                self.assertEqual({row for row, _ in fair}, rows)
                ends = fairshares.leave_out(fair, 1)
                self.assertEqual(fairshares.day_table(ends, 0), behind(chain[0], chain[1]))

    def test_fair_by(self):
        one = share_of_integers((0, 2))
        middle = share_of_integers((-2, 1), (2, 1))
        self.assertEqual(fairshares.fair_by((middle,)), ((path(-2), (1, 1)), (path(2), (1, 1))))
        self.assertEqual(fairshares.fair_by((one, middle)),
                         ((path(0, -2), (1, 1)), (path(0, 2), (1, 1))))
        self.assertEqual(fairshares.fair_by((one, one, one)), ((path(0, 0, 0), (2, 1)),))
        maker = Maker(86)
        for _ in range(100):
            known = maker.known()
            fair = fairshares.fair_by(known)
            self.assertTrue(is_fair(fair))
            for day, share in enumerate(known):
                self.assertEqual(fairshares.day_share(fair, day), share)
            for day in range(len(known) - 1):
                self.assertEqual(fairshares.day_table(fair, day), left_table(known[day], known[day + 1]))
            if len(known) > 1:
                chain = [fairshares.day_table(fair, day) for day in range(len(known) - 1)]
                self.assertEqual(fairshares.chained(tuple(chain)), fair)

    def test_fair_by_of_too_many_paths(self):
        one = (((-53199, 4612), (2306, 1485)), ((-2039, 191), (11651, 1782)),
               ((-1260013, 119269), (119269, 17820)), ((-1378831, 133213), (133213, 35640)),
               ((-419597, 41351), (289457, 35640)), ((-155873, 15909), (5303, 990)))
        middle = (((-425, 27), (3, 1)), ((-2771, 213), (71, 5)), ((-1609, 157), (157, 45)),
                  ((-389, 42), (28, 5)), ((-386, 83), (166, 45)), ((213, 91), (91, 45)))
        last = share_of_integers((-26, 6), (-21, 3), (-18, 8), (-3, 1), (2, 8), (3, 6))
        self.assertEqual(len(fairshares.fair_by((one, middle))), 16)
        with self.assertRaises(TooMany) as caught:
            fairshares.fair_by((one, middle, last))
        self.assertEqual(caught.exception.most, 36)
        # What is not WIDER comes first.
        self.assertRaises(NotWider, fairshares.fair_by, (one, last, middle))

    def test_shares_that_are_none(self):
        good = share_of_integers((0, 2))
        for thing in ODD + SOME_SHARES:
            with self.assertRaises(BadShare) as caught:
                fairshares.fair_by(thing)
            bad = thing
            if isinstance(thing, tuple) and 0 < len(thing) < 4:
                # What is no SHARE comes ahead of what is not WIDER.
                bad = next(part for part in thing if not is_share(part))
            self.assertIs(caught.exception.given, bad)
        for bad in SHARES:
            with self.assertRaises(BadShare) as caught:
                fairshares.fair_by((share_of_integers((5, 5)), good, bad))
            self.assertIs(caught.exception.given, bad)

    def test_shares_that_are_not_wider(self):
        one = share_of_integers((0, 2))
        middle = share_of_integers((-2, 1), (2, 1))
        wide = share_of_integers((-4, 1), (4, 1))
        for shares, at in (((middle, one), 0), ((one, wide, middle), 1), ((wide, middle, one), 0),
                           ((one, share_of_integers((0, 3)), one), 0),
                           ((middle, share_of_integers((-2, 1), (3, 1))), 0)):
            with self.assertRaises(NotWider) as caught:
                fairshares.fair_by(shares)
            paper = caught.exception.paper
            self.assertEqual(check_wider(shares[at], shares[at + 1], paper), paper[0])
            self.assertNotEqual(paper[0], "table")
            self.assertFalse(is_wider(shares[at], shares[at + 1]))


class TellBackTest(unittest.TestCase):

    def test_by_hand(self):
        self.assertEqual(tellback.world_of(FAIR), WORLD)
        self.assertEqual(tellback.row_of(FAIR), ROW)
        one = ((path(1), (1, 3)), (path(2), (1, 1)))
        self.assertEqual(tellback.world_of(one), (((1, 3), (1, 1)), ((1, 1), (2, 1))))
        self.assertEqual(tellback.row_of(one), (((0,), (1,)),))
        self.assertEqual(tellback.row_of(((path(1, 1, 1), (1, 3)),)), (((0,),),) * 3)

    def test_there_and_back(self):
        maker = Maker(87)
        for _ in range(200):
            fair = maker.fair()
            world, row = tellback.world_of(fair), tellback.row_of(fair)
            self.assertEqual(len(row), len(fair[0][0]))
            for state, (wanted, weight) in enumerate(fair):
                self.assertEqual(dayviews.path_of(world, row, state), wanted)
                self.assertEqual(world[state], (weight, wanted[-1]))
            self.assertEqual(dayviews.fair_of(world, row), fair)
            self.assertIs(ownviews.is_own(world, row), True)


if __name__ == "__main__":
    unittest.main()
