"""HOUSES and DEALS; LOSS LINES as POINTS."""

import unittest
from fractions import Fraction
from itertools import product

from forehouse import houses, laddersback
from forehouse.errors import (BadDeals, BadFraction, BadHouses, BadLadder, BadPaper, BadPoints,
                              ForeError)
from forehouse.moves import loss_at
from tests.makers import Maker, pair_of, whole, worth
from tests.wrongs import DEALS, FRACTIONS, HOUSES, LADDERS, ODD, POINTS


def ladder(*pairs):
    return tuple((whole(mark), whole(units)) for mark, units in pairs)


# The first one buys 2 at 1 and 1 at 5, sells 3 at 6; the other sells 2 at 3 and 4 at 7.
TWO = ((ladder((1, 2), (5, 1), (6, 3)), (11, 2)), (ladder((3, 2), (7, 4)), (2, 1)))
# Beside them one that buys 2 at 4, and 1 at 9.
THREE = TWO + ((ladder((4, 2), (9, 1)), (9, 1)),)


def deal(number, place, units):
    return (number, place, whole(units))


class HousesTest(unittest.TestCase):

    def test_need_houses(self):
        one = (((), (0, 1)),)
        for some in (one, one * 6, TWO, THREE):
            self.assertIs(houses.need_houses(some), some)

    def test_what_are_none(self):
        for thing in ODD + HOUSES:
            self.assertRaises(BadHouses, houses.need_houses, thing)
        for thing in (None, (), [], 7, (TWO[0],) * 7, TWO[0], "a"):
            with self.assertRaises(BadHouses) as caught:
                houses.need_houses(thing)
            fits = isinstance(thing, tuple) and 0 < len(thing) < 7
            self.assertEqual(caught.exception.number, 0 if fits else None)
        for thing in ODD + tuple((bad, (0, 1)) for bad in LADDERS) + tuple(
                ((), bad) for bad in ODD + FRACTIONS):
            with self.assertRaises(BadHouses) as caught:
                houses.need_houses(TWO + (thing, None))
            self.assertEqual(caught.exception.number, 2)

    def test_bids_and_asks(self):
        self.assertEqual(houses.bids(TWO), ((whole(1), 0, 0), (whole(5), 0, 1)))
        self.assertEqual(houses.asks(TWO), ((whole(3), 1, 0), (whole(6), 0, 2), (whole(7), 1, 1)))
        # A MARK that is the REPORT is a BID; alike MARKS go by houses.
        same = (ladder((3, 1)), whole(3))
        self.assertEqual(houses.bids((same, same)), ((whole(3), 0, 0), (whole(3), 1, 0)))
        self.assertEqual(houses.asks((same, same)), ())
        self.assertEqual(houses.bids((((), (0, 1)),)), ())

    def test_bids_and_asks_by_the_words(self):
        maker = Maker(60)
        for _ in range(100):
            some = maker.houses()
            for told, are_asks in ((houses.bids(some), False), (houses.asks(some), True)):
                wanted = [(worth(mark), number, place)
                          for number, (rungs, report) in enumerate(some)
                          for place, (mark, _) in enumerate(rungs)
                          if (worth(mark) > worth(report)) == are_asks]
                self.assertEqual([(worth(mark), number, place) for mark, number, place in told],
                                 sorted(wanted))


class DealsTest(unittest.TestCase):

    def test_are_deals(self):
        for good in ((), (deal(0, 0, 2),), (deal(0, 0, 1), deal(0, 1, 1), deal(1, 0, 2)),
                     ((0, 0, (1, 3)), (1, 1, (7, 2)))):
            self.assertIs(houses.are_deals(TWO, good), True, good)
        for bad in ODD + DEALS:
            self.assertIs(houses.are_deals(TWO, bad), False, bad)

    def test_gain_by_hand(self):
        # 2 got at 3, 1 given at 5, 1 given at 1.
        deals = (deal(0, 0, 1), deal(0, 1, 1), deal(1, 0, 2))
        self.assertEqual(houses.gain_of(TWO, deals), (0, 1))
        self.assertEqual(houses.gain_of(TWO, (deal(0, 1, 1), deal(1, 0, 1))), (2, 1))
        self.assertEqual(houses.gain_of(TWO, (deal(0, 0, 2), deal(0, 2, 2))), (-10, 1))
        self.assertEqual(houses.gain_of(TWO, ()), (0, 1))

    def test_what_are_no_even_deals(self):
        for bad in ODD + DEALS + ((deal(0, 0, 2),), (deal(0, 1, 1), deal(1, 0, 2))):
            with self.assertRaises(BadDeals) as caught:
                houses.gain_of(TWO, bad)
            self.assertIs(caught.exception.given, bad)

    def test_greatest_gain_by_hand(self):
        # 1 goes from 3 to 5.
        self.assertEqual(houses.greatest_gain(TWO), (2, 1))
        deals, price = houses.gain_paper(TWO)
        self.assertEqual(deals, (deal(0, 1, 1), deal(1, 0, 1)))
        self.assertEqual(price, (3, 1))
        # 1 goes from 3 to 9, 1 from 3 to 5; then nothing is left below 5 or 4.
        self.assertEqual(houses.greatest_gain(THREE), (8, 1))
        self.assertEqual(houses.greatest_gain(TWO[:1]), (0, 1))
        self.assertEqual(houses.greatest_gain((((), (0, 1)),)), (0, 1))
        self.assertEqual(houses.gain_paper((((), (3, 1)),))[0], ())
        same = ((ladder((3, 1)), whole(3)), (ladder((3, 1)), whole(2)))
        self.assertEqual(houses.greatest_gain(same), (0, 1))

    def test_six_houses_with_ten_pairs(self):
        some = tuple((tuple((made, (1, 1)) for made in (whole(at) for at in range(10))), whole(at))
                     for at in range(6))
        self.assertEqual(houses.check_gain(some, houses.gain_paper(some)),
                         houses.greatest_gain(some))

    def test_against_all_deals(self):
        maker = Maker(61)
        for _ in range(40):
            some = tuple((tuple((whole(mark), whole(maker.between(1, 2)))
                                for mark in range(-2, 3) if maker.below(3) == 0),
                          whole(maker.between(-2, 2))) for _ in range(maker.between(1, 3)))
            paper = houses.gain_paper(some)
            gain = houses.check_gain(some, paper)
            self.assertEqual(gain, houses.greatest_gain(some))
            self.assertEqual(gain, houses.gain_of(some, paper[0]))
            self.assertEqual(gain, whole(self.most(some)))
            bids, asks = houses.bids(some), houses.asks(some)
            better = any(worth(bid[0]) > worth(ask[0]) for bid in bids for ask in asks)
            self.assertEqual(gain != (0, 1), better)

    def most(self, some):
        """The GREATEST GAIN of DEALS of whole units."""
        offers = [(mark, units, mark[0] > report[0]) for rungs, report in some
                  for mark, units in rungs]
        best = 0
        for counts in product(*[range(units[0] + 1) for _, units, _ in offers]):
            held = sum(count if is_ask else -count
                       for count, (_, _, is_ask) in zip(counts, offers))
            if held == 0:
                best = max(best, sum(-count * mark[0] if is_ask else count * mark[0]
                                     for count, (mark, _, is_ask) in zip(counts, offers)))
        return best

    def test_fractions_of_units(self):
        maker = Maker(62)
        for _ in range(150):
            some = maker.houses(6)
            paper = houses.gain_paper(some)
            gain = houses.check_gain(some, paper)
            self.assertEqual(gain, houses.greatest_gain(some))
            self.assertGreaterEqual(gain[0], 0)
            self.assertIs(houses.are_deals(some, paper[0]), True)

    def test_which_papers_hold(self):
        deals = (deal(0, 1, 1), deal(1, 0, 1))
        for price in ((3, 1), (7, 2), (4, 1), (9, 2), (5, 1)):
            # Below 3 no ASK is, above 5 no BID.
            fits = price == (3, 1)
            self.assertEqual(self.check(TWO, (deals, price)), (2, 1) if fits else "sum")
        self.assertEqual(self.check(TWO, ((), (3, 1))), "sum")
        self.assertEqual(self.check(TWO, ((deal(0, 0, 1), deal(0, 2, 1)), (3, 1))), "sum")
        self.assertEqual(self.check(THREE[:1], ((), (11, 2))), (0, 1))
        self.assertEqual(self.check(THREE[:1], ((), (5, 1))), (0, 1))
        self.assertEqual(self.check(THREE[:1], ((), (9, 2))), "sum")
        self.assertEqual(self.check(THREE[:1], ((), (13, 2))), "sum")
        for thing in ODD + DEALS:
            self.assertEqual(self.check(TWO, (thing, None)), "deals")
        self.assertEqual(self.check(TWO, ((deal(0, 0, 1),), (3, 1))), "deals")
        for thing in ODD + FRACTIONS:
            self.assertEqual(self.check(TWO, (deals, thing)), "price")
        for thing in ((), (deals,), (deals, (3, 1), 0), [deals, (3, 1)], None, 7, "ab"):
            self.assertEqual(self.check(TWO, thing), "form")

    def check(self, some, paper):
        try:
            return houses.check_gain(some, paper)
        except BadPaper as error:
            return error.part


LADDER = ladder((1, 2), (4, 3))
POINTS_OF = ((whole(0), whole(2)), (whole(1), whole(0)), (whole(4), whole(0)), (whole(5), whole(3)))


class PointsTest(unittest.TestCase):

    def test_need_points(self):
        twelve = tuple((whole(at), whole(at * at)) for at in range(12))
        for points in (POINTS_OF, POINTS_OF[:2], twelve):
            self.assertIs(laddersback.need_points(points), points)
        for thing in ODD + POINTS:
            with self.assertRaises(BadPoints) as caught:
                laddersback.need_points(thing)
            self.assertIs(caught.exception.given, thing)

    def test_lines_by_hand(self):
        wanted = ((-3, 8), (0, 2), (1, 0), (2, 0), (4, 0), (5, 3), (7, 9))
        for at, height in wanted:
            self.assertEqual(laddersback.line_at(POINTS_OF, whole(at)), whole(height))
        self.assertEqual(laddersback.line_at(POINTS_OF, (1, 2)), (1, 1))
        self.assertEqual(laddersback.line_at(POINTS_OF, (13, 3)), (1, 1))
        # Any line at all, also one that falls.
        points = (((0, 1), (3, 1)), ((2, 1), (-1, 1)))
        self.assertEqual(laddersback.line_at(points, (3, 1)), (-3, 1))
        self.assertEqual(laddersback.line_at(points, (-1, 2)), (4, 1))

    def test_points_of_ladders(self):
        self.assertEqual(laddersback.points_of(LADDER, (2, 1)), POINTS_OF)
        self.assertEqual(laddersback.points_of((), (2, 1)), (((1, 1), (0, 1)), ((3, 1), (0, 1))))
        # The REPORT is beyond all MARKS.
        self.assertEqual(laddersback.points_of(LADDER, (9, 1)), (
            (whole(0), whole(14)), (whole(1), whole(9)), (whole(4), whole(0)),
            (whole(10), whole(0))))
        self.assertEqual(laddersback.points_of(LADDER, (-1, 2))[0][0], (-3, 2))
        ten = tuple((whole(at), (1, 2)) for at in range(10))
        self.assertEqual(len(laddersback.points_of(ten, (3, 1))), 12)

    def test_ladders_back_by_hand(self):
        for report in ((1, 1), (2, 1), (3, 1), (7, 2)):
            self.assertEqual(laddersback.ladder_back(POINTS_OF, report), LADDER)
        # At 4 the line rises just above; below 1 and above 4 it is not nought.
        for report in ((4, 1), (9, 2), (1, 2), (-7, 1), (9, 1)):
            self.assertIsNone(laddersback.ladder_back(POINTS_OF, report))
        flat = (((0, 1), (0, 1)), ((1, 1), (0, 1)))
        self.assertEqual(laddersback.ladder_back(flat, (5, 1)), ())
        self.assertEqual(laddersback.ladder_back(flat + (((2, 1), (0, 1)),), (-5, 1)), ())
        up = (((0, 1), (0, 1)), ((1, 1), (1, 1)))
        self.assertIsNone(laddersback.ladder_back(up, (0, 1)))
        high = (((0, 1), (1, 1)), ((1, 1), (1, 1)))
        self.assertIsNone(laddersback.ladder_back(high, (0, 1)))
        # Nought and flat at 0, but its slope falls at 2.
        falls = (((0, 1), (0, 1)), ((1, 1), (0, 1)), ((2, 1), (3, 1)), ((3, 1), (4, 1)))
        self.assertIsNone(laddersback.ladder_back(falls, (0, 1)))

    def test_twelve_points(self):
        twelve = tuple((whole(at), whole(at * (at - 1))) for at in range(12))
        told = laddersback.ladder_back(twelve, (0, 1))
        self.assertEqual(told, tuple((whole(at), whole(2)) for at in range(1, 11)))

    def test_there_and_back(self):
        maker = Maker(63)
        for _ in range(300):
            rungs, report = maker.ladder(8), maker.fraction()
            points = laddersback.points_of(rungs, report)
            laddersback.need_points(points)
            self.assertEqual(laddersback.ladder_back(points, report), rungs)
            for number in maker.fractions(4, -9, 9):
                self.assertEqual(laddersback.line_at(points, number),
                                 loss_at(rungs, report, number))

    def test_a_ladder_is_told_exactly_if_it_has_the_line(self):
        maker = Maker(64)
        told = 0
        for _ in range(400):
            marks = sorted({maker.between(-3, 3) for _ in range(maker.between(2, 5))} | {-4})
            points = tuple((whole(mark), whole(maker.pick((0, 0, 0, 1, 2)))) for mark in marks)
            report = maker.fraction(-5, 5, 2)
            rungs = laddersback.ladder_back(points, report)
            slopes = [Fraction(b[1][0] - a[1][0], b[0][0] - a[0][0])
                      for a, b in zip(points, points[1:])]
            above = [slope for slope, point in zip(slopes[1:], points[1:])
                     if worth(point[0]) <= worth(report)]
            fits = (slopes == sorted(slopes) and (slopes[:1] + above)[-1] == 0
                    and laddersback.line_at(points, report) == (0, 1))
            self.assertEqual(rungs is not None, fits)
            if fits:
                told += 1
                for number in maker.fractions(5, -9, 9):
                    self.assertEqual(loss_at(rungs, report, number),
                                     laddersback.line_at(points, number))
        self.assertGreater(told, 20)

    def test_wrong_ones(self):
        for bad in ODD + POINTS:
            for call in (laddersback.line_at, laddersback.ladder_back):
                self.assertRaises(BadPoints, call, bad, None)
        for bad in ODD + FRACTIONS:
            for call in (laddersback.line_at, laddersback.ladder_back):
                self.assertRaises(BadFraction, call, POINTS_OF, bad)
            self.assertRaises(BadFraction, laddersback.points_of, LADDER, bad)
        self.assertRaises(BadLadder, laddersback.points_of, None, None)
        self.assertRaises(ForeError, houses.bids, None)


class PricesTest(unittest.TestCase):

    def test_the_sum_by_the_words(self):
        maker = Maker(65)
        for _ in range(150):
            some, price = maker.houses(), maker.fraction()
            gain = Fraction(0)
            for rungs, report in some:
                for mark, units in rungs:
                    is_ask = worth(mark) > worth(report)
                    gap = worth(price) - worth(mark) if is_ask else worth(mark) - worth(price)
                    gain += worth(units) * max(gap, 0)
            deals = houses.gain_paper(some)[0]
            if pair_of(gain) == houses.greatest_gain(some):
                self.assertEqual(houses.check_gain(some, (deals, price)), pair_of(gain))
            else:
                self.assertRaises(BadPaper, houses.check_gain, some, (deals, price))
                self.assertGreater(gain, worth(houses.greatest_gain(some)))


if __name__ == "__main__":
    unittest.main()
