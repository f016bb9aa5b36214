"""GOALS, LEVERS, REACHED and STOPPED BETS; RIVAL BETS, BLENDS and leaders."""

import unittest
from fractions import Fraction
from itertools import product

from forehouse import bets, prices, rivals, runs, ville
from forehouse.errors import (BadForecaster, BadGoal, BadNumber, BadParts, BadRun, BadStakes,
                              BadTimes)
from tests import wrongs
from tests.makers import Maker, made, pair_of, whole, worth
from tests.test_runs import FAIR, HALF, all_runs, capital_of, chance_of, told
from tests.wrongs import MILD, ODD, RANGE

THIRD = (((1, 3), (1, 3)),) * 3


def safe_bets(maker, length, forecaster):
    """BETS that are SAFE from 1."""
    many = 2 ** length - 1
    stakes = maker.fractions(many, -4, 4)
    while not bets.is_safe(length, forecaster, whole(1), stakes):
        stakes = bets.scaled(length, stakes, HALF)
    return stakes


class GoalTest(unittest.TestCase):

    def test_payoffs_by_hand(self):
        self.assertEqual(ville.goal_payoff(2, ()), (whole(0),) * 4)
        self.assertEqual(ville.goal_payoff(2, ((0, 1), (1, 1))),
                         (whole(0), whole(1), whole(0), whole(1)))
        for length in (1, 5):
            self.assertEqual(ville.goal_payoff(length, runs.whole_runs(length)),
                             (whole(1),) * 2 ** length)

    def test_levers_by_hand(self):
        self.assertEqual(ville.lever(2, FAIR, ((0, 0),)), whole(4))
        self.assertEqual(ville.lever(2, FAIR, ((0, 0), (1, 1))), whole(2))
        self.assertEqual(ville.lever(2, FAIR, runs.whole_runs(2)), whole(1))
        # Of two ones at most 1/4, of a one and a nought behind it at most 1/2 times 2/3.
        self.assertEqual(ville.lever(2, (RANGE,) * 3, ((1, 1),)), whole(4))
        self.assertEqual(ville.lever(2, (RANGE,) * 3, ((1, 0),)), whole(3))
        never = ((whole(0), whole(0)),) * 3
        self.assertIsNone(ville.lever(2, never, ((0, 1), (1, 0))))
        self.assertEqual(ville.lever(2, never, ((0, 0),)), whole(1))

    def test_wrong_goals(self):
        for thing in ODD + wrongs.GOALS:
            for call, args in ((ville.goal_payoff, (2, thing)), (ville.lever, (2, FAIR, thing))):
                with self.assertRaises(BadGoal) as caught:
                    call(*args)
                self.assertIs(caught.exception.given, thing)
        self.assertRaises(BadGoal, ville.lever, 2, FAIR, ())
        self.assertRaises(BadForecaster, ville.lever, 2, None, ())
        self.assertRaises(BadNumber, ville.goal_payoff, 0, None)

    def test_facts_of_levers(self):
        maker = Maker(150)
        seen = 0
        for _ in range(150):
            length, forecaster = told(maker)
            goal = maker.goal(length) or (runs.whole_runs(length)[0],)
            payoff = ville.goal_payoff(length, goal)
            price = worth(prices.price(length, forecaster, payoff))
            lever = ville.lever(length, forecaster, goal)
            if price == 0:
                self.assertIsNone(lever)
                continue
            seen += 1
            self.assertEqual(worth(lever), 1 / price)
            # It is reached by SAFE BETS, and no others reach more at each RUN of the GOAL.
            stakes = bets.scaled(length, prices.price_paper(length, forecaster, payoff)[0], lever)
            self.assertIs(bets.is_safe(length, forecaster, whole(1), stakes), True)
            self.assertGreaterEqual(
                min(capital_of(length, forecaster, whole(1), stakes, run) for run in goal),
                worth(lever))
            other = safe_bets(maker, length, forecaster)
            self.assertLessEqual(
                min(capital_of(length, forecaster, whole(1), other, run) for run in goal),
                worth(lever))
        self.assertGreater(seen, 80)


class ReachedTest(unittest.TestCase):

    def test_by_hand(self):
        # All on 1, twice: behind a one 2, behind two 4.
        stakes = (whole(2), whole(0), whole(4))
        self.assertEqual(ville.reached(2, FAIR, stakes, whole(2)), ((1, 0), (1, 1)))
        self.assertEqual(ville.stopped(2, FAIR, stakes, whole(2)), (whole(2), whole(0), whole(0)))
        self.assertEqual(ville.reached(2, FAIR, stakes, (5, 2)), ((1, 1),))
        self.assertEqual(ville.stopped(2, FAIR, stakes, (5, 2)), stakes)
        self.assertEqual(ville.reached(2, FAIR, stakes, whole(5)), ())
        # At () there is 1 already.
        for times in (whole(1), HALF, (1, 10 ** 50)):
            self.assertEqual(ville.reached(2, FAIR, stakes, times), runs.whole_runs(2))
            self.assertEqual(ville.stopped(2, FAIR, stakes, times), (whole(0),) * 3)

    def test_errors_in_turn(self):
        good = (whole(0),) * 3
        for call in (ville.reached, ville.stopped):
            for thing in ODD + wrongs.STAKES + ((whole(3), whole(0), whole(0)),
                                                (whole(2), whole(0), whole(5)),
                                                (whole(0), whole(0), (-200001, 100000))):
                with self.assertRaises(BadStakes) as caught:
                    call(2, FAIR, thing, None)
                self.assertIs(caught.exception.given, thing)
            for thing in ODD + wrongs.TIMES:
                with self.assertRaises(BadTimes) as caught:
                    call(2, FAIR, good, thing)
                self.assertIs(caught.exception.given, thing)

    def test_facts(self):
        maker = Maker(151)
        sizes = set()
        for _ in range(150):
            length, forecaster = told(maker, 4)
            stakes, times = safe_bets(maker, length, forecaster), made(maker.between(2, 9), 6)
            goal = ville.reached(length, forecaster, stakes, times)
            high = [run for run in all_runs(length)
                    if capital_of(length, forecaster, whole(1), stakes, run) >= worth(times)]
            wanted = [run for run in product((0, 1), repeat=length)
                      if any(run[:at] in high for at in range(length + 1))]
            self.assertEqual(goal, tuple(wanted))
            sizes.add((len(goal) == 2 ** length, goal == ()))
            held = ville.stopped(length, forecaster, stakes, times)
            for run, stake, kept in zip(all_runs(length - 1), stakes, held):
                gone = any(run[:at] in high for at in range(length))
                self.assertEqual(kept, whole(0) if gone else stake)
            payoff = ville.goal_payoff(length, goal)
            self.assertLessEqual(worth(prices.price(length, forecaster, payoff)), 1 / worth(times))
            start = (times[1], times[0])
            parts = bets.scaled(length, held, start)
            self.assertIs(bets.do_bring(length, forecaster, start, parts, payoff), True)
            self.assertIs(bets.is_safe(length, forecaster, start, parts), True)
        self.assertEqual(len(sizes), 3)

    def test_five_days(self):
        forecaster = ((HALF, HALF),) * 31
        stakes = [whole(0)] * 31
        for at, stake in ((0, 2), (2, 4), (6, 8), (14, 16), (30, 32)):
            stakes[at] = whole(stake)
        stakes = tuple(stakes)
        self.assertEqual(ville.reached(5, forecaster, stakes, whole(32)), ((1,) * 5,))
        self.assertEqual(len(ville.reached(5, forecaster, stakes, whole(4))), 8)
        self.assertEqual(ville.lever(5, forecaster, ((1,) * 5,)), whole(32))


class RivalsTest(unittest.TestCase):

    def test_by_hand(self):
        # 1/2 against 1/3: behind a one 2/3, behind a nought 4/3.
        self.assertEqual(rivals.rival_bets(2, FAIR, THIRD), ((-2, 3), (-8, 9), (-4, 9)))
        for run, part in (((), whole(1)), ((0,), (4, 3)), ((1,), (2, 3)), ((0, 0), (16, 9)),
                          ((0, 1), (8, 9)), ((1, 0), (8, 9)), ((1, 1), (4, 9))):
            self.assertEqual(rivals.rival_capital(2, FAIR, THIRD, run), part)
        self.assertEqual(rivals.rival_bets(2, FAIR, FAIR), (whole(0),) * 3)

    def test_blends_by_hand(self):
        # Behind a nought the one that tells 1/3 has been twice as right as that with 2/3.
        other = (((2, 3), (2, 3)),) * 3
        self.assertEqual(rivals.blend(2, (THIRD, other), (HALF, HALF)),
                         ((HALF, HALF), ((4, 9), (4, 9)), ((5, 9), (5, 9))))
        self.assertEqual(rivals.blend(2, (THIRD,), (whole(1),)), THIRD)
        self.assertEqual(rivals.blend(2, (THIRD,) * 4, ((1, 8), (1, 8), HALF, (1, 4))), THIRD)
        self.assertEqual(rivals.leaders(2, (THIRD, other), ()), (0, 1))
        self.assertEqual(rivals.leaders(2, (THIRD, other), (0,)), (0,))
        self.assertEqual(rivals.leaders(2, (THIRD, other), (1, 1)), (1,))
        self.assertEqual(rivals.leaders(2, (other, THIRD, FAIR, THIRD), (0, 0)), (1, 3))
        self.assertEqual(rivals.leaders(2, (THIRD, other), (0, 1)), (0, 1))

    def test_facts(self):
        maker = Maker(152)
        for _ in range(100):
            length = maker.between(1, 3)
            one, rival = maker.mild(length), maker.mild(length)
            own, far = [[part for part, _ in each] for each in (one, rival)]
            stakes = rivals.rival_bets(length, one, rival)
            self.assertIs(bets.is_safe(length, one, whole(1), stakes), True)
            for run in all_runs(length):
                wanted = chance_of(length, far, run) / chance_of(length, own, run)
                self.assertEqual(worth(bets.capital(length, one, whole(1), stakes, run)), wanted)
                self.assertEqual(worth(rivals.rival_capital(length, one, rival, run)), wanted)
                self.assertEqual(worth(rivals.rival_capital(length, rival, one, run)), 1 / wanted)
            ends = tuple(rivals.rival_capital(length, one, rival, run)
                         for run in runs.whole_runs(length))
            self.assertEqual(runs.mean_by(length, one, tuple(own), ends), whole(1))

    def test_facts_of_blends(self):
        maker = Maker(153)
        for _ in range(100):
            length = maker.between(1, 3)
            some = tuple(maker.mild(length) for _ in range(maker.between(1, 4)))
            if maker.below(3) == 0:
                some = some[:1] * len(some)
            shares = [maker.between(1, 4) for _ in some]
            parts = tuple(made(share, sum(shares)) for share in shares)
            blend = rivals.blend(length, some, parts)
            self.assertIs(runs.is_mild(length, blend), True)
            other = maker.mild(length)
            for run in all_runs(length):
                found = [chance_of(length, [part for part, _ in one], run) for one in some]
                self.assertEqual(chance_of(length, [part for part, _ in blend], run),
                                 sum(worth(part) * chance for part, chance in zip(parts, found)))
                self.assertEqual(rivals.leaders(length, some, run),
                                 tuple(at for at, chance in enumerate(found) if chance == max(found)))
                held = [worth(rivals.rival_capital(length, other, one, run)) for one in some]
                together = worth(rivals.rival_capital(length, other, blend, run))
                self.assertEqual(together, sum(worth(part) * own for part, own in zip(parts, held)))
                for part, own in zip(parts, held):
                    self.assertGreaterEqual(together, worth(part) * own)

    def test_wrong_forecasters(self):
        sure = FAIR[:2] + ((whole(1), whole(1)),)
        never = ((whole(0), whole(0)),) + FAIR[1:]
        wide = (RANGE,) * 3
        for thing in ODD + wrongs.FORECASTERS + (sure, never, wide):
            for args in ((2, thing, None), (2, FAIR, thing)):
                with self.assertRaises(BadForecaster) as caught:
                    rivals.rival_bets(*args)
                self.assertIs(caught.exception.given, thing)
                with self.assertRaises(BadForecaster) as caught:
                    rivals.rival_capital(*args, None)
                self.assertIs(caught.exception.given, thing)
            for call in (rivals.blend, rivals.leaders):
                with self.assertRaises(BadForecaster) as caught:
                    call(2, (MILD, thing, None), None)
                self.assertIs(caught.exception.given, thing)
        for thing in ODD + wrongs.SOME_FORECASTERS:
            if isinstance(thing, tuple) and 0 < len(thing) < 5:
                continue
            for call in (rivals.blend, rivals.leaders):
                with self.assertRaises(BadForecaster) as caught:
                    call(2, thing, None)
                self.assertIs(caught.exception.given, thing)

    def test_wrong_parts_and_runs(self):
        for thing in ODD + wrongs.PARTS:
            with self.assertRaises(BadParts) as caught:
                rivals.blend(2, (MILD, FAIR), thing)
            self.assertIs(caught.exception.given, thing)
        for thing in ODD + wrongs.RUNS:
            for call, first in ((rivals.leaders, (2, (MILD,))), (rivals.rival_capital, (2, MILD, FAIR))):
                with self.assertRaises(BadRun) as caught:
                    call(*first, thing)
                self.assertIs(caught.exception.given, thing)

    def test_four_of_five_days_with_60_figures(self):
        big = 10 ** 59
        some = tuple(tuple((pair_of(Fraction(big // (at % 5 + 2) + own, big + at + 3 * own)),) * 2
                           for at in range(31)) for own in range(4))
        parts = tuple(map(pair_of, (Fraction(1, big), Fraction(big - 7, 3 * big), HALF_OF,
                                    1 - HALF_OF - Fraction(1, big) - Fraction(big - 7, 3 * big))))
        blend = rivals.blend(5, some, parts)
        run = (1, 0, 1, 1, 0)
        self.assertEqual(
            chance_of(5, [part for part, _ in blend], run),
            sum(worth(part) * chance_of(5, [own for own, _ in one], run)
                for part, one in zip(parts, some)))
        stakes = rivals.rival_bets(5, some[0], blend)
        self.assertEqual(bets.capital(5, some[0], whole(1), stakes, run),
                         rivals.rival_capital(5, some[0], blend, run))


HALF_OF = Fraction(1, 2)

if __name__ == "__main__":
    unittest.main()
