"""RUNS, FORECASTERS, CHANCES; BETS and CAPITAL; PRICES of PAYOFFS."""

import unittest
from fractions import Fraction
from itertools import product

from forehouse import bets, prices, runs
from forehouse.errors import (BadChances, BadForecaster, BadFraction, BadNumber, BadPaper, BadParts,
                              BadPayoff, BadRun, BadStakes)
from tests import wrongs
from tests.makers import Maker, pair_of, whole, worth
from tests.wrongs import ODD, RANGE

HALF = (1, 2)
FAIR = ((HALF, HALF),) * 3


def all_runs(length):
    return [run for many in range(length + 1) for run in product((0, 1), repeat=many)]


def chance_of(length, chances, run):
    """The CHANCE of a RUN by the words of the document."""
    told = dict(zip(all_runs(length - 1), chances))
    out = Fraction(1)
    for at, outcome in enumerate(run):
        part = worth(told[run[:at]])
        out *= part if outcome else 1 - part
    return out


def capital_of(length, forecaster, start, stakes, run):
    """The CAPITAL at a RUN by the words of the document."""
    told = dict(zip(all_runs(length - 1), zip(stakes, forecaster)))
    out = worth(start)
    for at, outcome in enumerate(run):
        stake, (low, high) = told[run[:at]]
        out += worth(stake) * (outcome - worth(high if stake[0] > 0 else low))
    return out


def mean_of(length, chances, payoff):
    return sum((chance_of(length, chances, run) * worth(part)
                for run, part in zip(product((0, 1), repeat=length), payoff)), Fraction(0))


def corner_chances(forecaster):
    """All CHANCES of LOWS and HIGHS alone, among which the greatest MEAN is."""
    return list(product(*forecaster))


def told(maker, most=3):
    length = maker.between(1, most)
    return length, maker.forecaster(length)


class RunsTest(unittest.TestCase):

    def test_by_hand(self):
        self.assertEqual(runs.runs(1), ((),))
        self.assertEqual(runs.whole_runs(1), ((0,), (1,)))
        self.assertEqual(runs.runs(2), ((), (0,), (1,)))
        self.assertEqual(runs.runs(3), ((), (0,), (1,), (0, 0), (0, 1), (1, 0), (1, 1)))
        self.assertEqual(runs.whole_runs(2), ((0, 0), (0, 1), (1, 0), (1, 1)))
        for length in range(1, 6):
            self.assertEqual(runs.runs(length), tuple(all_runs(length - 1)))
            self.assertEqual(runs.whole_runs(length), tuple(product((0, 1), repeat=length)))
        self.assertEqual((len(runs.runs(5)), len(runs.whole_runs(5))), (31, 32))

    def test_wrong_lengths(self):
        calls = ((runs.runs, 0), (runs.whole_runs, 0), (runs.need_forecaster, 1), (runs.chance, 3),
                 (bets.mix, 3), (prices.price, 2))
        for thing in ODD + wrongs.LENGTHS:
            for call, more in calls:
                with self.assertRaises(BadNumber) as caught:
                    call(thing, *[None] * more)
                self.assertIs(caught.exception.given, thing)

    def test_need_forecaster(self):
        sure = ((whole(0), whole(0)), (whole(1), whole(1)), (whole(0), whole(1)))
        for thing in (FAIR, (RANGE,) * 3, sure):
            self.assertIs(runs.need_forecaster(2, thing), thing)
        for length in (1, 5):
            good = (RANGE,) * (2 ** length - 1)
            self.assertIs(runs.need_forecaster(length, good), good)
        for thing in ODD + wrongs.FORECASTERS:
            for call, more in ((runs.need_forecaster, 0), (runs.is_exact, 0), (runs.is_mild, 0),
                               (runs.chance, 2), (bets.is_safe, 2), (prices.sale, 1)):
                with self.assertRaises(BadForecaster) as caught:
                    call(2, thing, *[None] * more)
                self.assertIs(caught.exception.given, thing)

    def test_exact_and_mild(self):
        for forecaster, exact, mild in (
                ((RANGE,) * 3, False, False), (FAIR, True, True),
                (((whole(0), whole(0)),) + FAIR[1:], True, False),
                (FAIR[:2] + ((whole(1), whole(1)),), True, False),
                (FAIR[:2] + ((HALF, whole(1)),), False, False),
                ((((1, 10 ** 50), (1, 10 ** 50)),) * 3, True, True)):
            self.assertIs(runs.is_exact(2, forecaster), exact)
            self.assertIs(runs.is_mild(2, forecaster), mild)

    def test_chances_by_hand(self):
        chances = ((1, 3), (1, 2), (2, 5))
        wide = ((whole(0), whole(1)),) * 3
        for run, part in (((), whole(1)), ((0,), (2, 3)), ((1,), (1, 3)), ((0, 0), (1, 3)),
                          ((0, 1), (1, 3)), ((1, 0), (1, 5)), ((1, 1), (2, 15))):
            self.assertEqual(runs.chance(2, wide, chances, run), part)
        # 3 times 1/3, and 30 times 2/15.
        self.assertEqual(runs.mean_by(2, wide, chances, (whole(3), whole(0), whole(0), whole(30))),
                         whole(5))
        self.assertEqual(runs.mean_by(1, (RANGE,), ((1, 3),), (whole(0), whole(1))), (1, 3))

    def test_ranges_that_reach_0_or_1(self):
        forecaster = ((whole(0), whole(1)), (whole(0), whole(0)), (whole(1), whole(1)))
        for part in (whole(0), whole(1), HALF):
            chances = (part, whole(0), whole(1))
            self.assertEqual(runs.chance(2, forecaster, chances, (0, 1)), whole(0))
            self.assertEqual(runs.chance(2, forecaster, chances, (1, 1)), part)
        self.assertRaises(BadChances, runs.chance, 2, forecaster, ((1, 2), (1, 9), (1, 1)), ())

    def test_wrong_chances_runs_and_payoffs(self):
        forecaster = (RANGE,) * 3
        good = ((1, 3), (1, 2), (2, 5))
        for thing in ODD + wrongs.CHANCES:
            for call in (runs.chance, runs.mean_by):
                with self.assertRaises(BadChances) as caught:
                    call(2, forecaster, thing, None)
                self.assertIs(caught.exception.given, thing)
        for thing in ODD + wrongs.RUNS:
            with self.assertRaises(BadRun) as caught:
                runs.chance(2, forecaster, good, thing)
            self.assertIs(caught.exception.given, thing)
        for thing in ODD + wrongs.PAYOFFS:
            with self.assertRaises(BadPayoff) as caught:
                runs.mean_by(2, forecaster, good, thing)
            self.assertIs(caught.exception.given, thing)

    def test_against_the_words(self):
        maker = Maker(140)
        for _ in range(100):
            length, forecaster = told(maker)
            chances = maker.chances(forecaster)
            for run in all_runs(length):
                self.assertEqual(worth(runs.chance(length, forecaster, chances, run)),
                                 chance_of(length, chances, run))
            payoff = maker.fractions(2 ** length)
            self.assertEqual(worth(runs.mean_by(length, forecaster, chances, payoff)),
                             mean_of(length, chances, payoff))


class BetsTest(unittest.TestCase):

    def test_capital_by_hand(self):
        forecaster = (RANGE,) * 3
        stakes = (whole(6), whole(-6), whole(0))
        # 6 on 1: at 1/2. Behind a 0, 6 on 0: at 1/3.
        for run, wanted in (((), whole(1)), ((0,), whole(-2)), ((1,), whole(4)), ((0, 0), whole(0)),
                            ((0, 1), whole(-6)), ((1, 0), whole(4)), ((1, 1), whole(4))):
            self.assertEqual(bets.capital(2, forecaster, whole(1), stakes, run), wanted)
        self.assertEqual(bets.capital(2, forecaster, (-5, 2), stakes, ()), (-5, 2))
        self.assertIs(bets.is_safe(2, forecaster, whole(1), stakes), False)
        self.assertIs(bets.is_safe(2, forecaster, whole(7), stakes), True)
        self.assertIs(bets.is_safe(2, forecaster, (6999, 1000), stakes), False)
        # Whole RUNS may be above nought where one ahead of them is not.
        self.assertIs(bets.is_safe(2, forecaster, whole(1), (whole(6), whole(0), whole(0))), False)

    def test_start_below_nought(self):
        none = (whole(0),) * 3
        self.assertIs(bets.is_safe(2, FAIR, (-1, 9), none), False)
        self.assertIs(bets.is_safe(2, FAIR, whole(0), none), True)
        self.assertIs(bets.do_bring(2, FAIR, (-1, 9), none, ((-1, 9),) * 4), True)
        self.assertIs(bets.do_bring(2, FAIR, (-1, 9), none, ((-1, 10),) * 4), False)

    def test_against_the_words(self):
        maker = Maker(141)
        seen = {True: 0, False: 0}
        for _ in range(150):
            length, forecaster = told(maker)
            start, stakes = maker.fraction(-1, 4), maker.fractions(2 ** length - 1, -2, 2)
            told_there = {run: capital_of(length, forecaster, start, stakes, run)
                          for run in all_runs(length)}
            for run, wanted in told_there.items():
                self.assertEqual(worth(bets.capital(length, forecaster, start, stakes, run)), wanted)
            safe = min(told_there.values()) >= 0
            seen[safe] += 1
            self.assertIs(bets.is_safe(length, forecaster, start, stakes), safe)
            ends = [told_there[run] for run in product((0, 1), repeat=length)]
            self.assertIs(bets.do_bring(length, forecaster, start, stakes,
                                        tuple(map(pair_of, ends))), True)
            payoff = maker.fractions(2 ** length, -4, 1)
            self.assertIs(bets.do_bring(length, forecaster, start, stakes, payoff),
                          all(end >= worth(part) for end, part in zip(ends, payoff)))
        self.assertGreater(min(seen.values()), 20)

    def test_mix_by_hand(self):
        one, other = (whole(3), whole(0), whole(-3)), (whole(0), whole(6), whole(3))
        self.assertEqual(bets.mix(2, one, other, (1, 3)), (whole(1), whole(4), whole(1)))
        self.assertEqual(bets.mix(2, one, other, whole(1)), one)
        self.assertEqual(bets.mix(2, one, other, whole(0)), other)
        self.assertEqual(bets.scaled(2, one, (-2, 3)), (whole(-2), whole(0), whole(2)))
        self.assertEqual(bets.scaled(2, one, whole(0)), (whole(0),) * 3)

    def test_facts_of_the_mix(self):
        maker = Maker(142)
        for _ in range(100):
            length, forecaster = told(maker)
            many = 2 ** length - 1
            one, other = maker.fractions(many), maker.fractions(many)
            start, part = maker.fraction(), maker.chance()
            both = bets.mix(length, one, other, part)
            exact = runs.is_exact(length, forecaster)
            for run in all_runs(length):
                apart = (worth(part) * capital_of(length, forecaster, start, one, run)
                         + (1 - worth(part)) * capital_of(length, forecaster, start, other, run))
                mixed = worth(bets.capital(length, forecaster, start, both, run))
                self.assertGreaterEqual(mixed, apart)
                if exact:
                    self.assertEqual(mixed, apart)

    def test_wrong_ones(self):
        good, forecaster = (whole(1),) * 3, (RANGE,) * 3
        for thing in ODD + wrongs.STAKES:
            for call, args in ((bets.capital, (2, forecaster, HALF, thing, None)),
                               (bets.is_safe, (2, forecaster, HALF, thing)),
                               (bets.do_bring, (2, forecaster, HALF, thing, None)),
                               (bets.mix, (2, thing, None, None)), (bets.mix, (2, good, thing, None)),
                               (bets.scaled, (2, thing, None))):
                with self.assertRaises(BadStakes) as caught:
                    call(*args)
                self.assertIs(caught.exception.given, thing)
        for thing in ODD + wrongs.FRACTIONS:
            for call, args in ((bets.capital, (2, forecaster, thing, None, None)),
                               (bets.is_safe, (2, forecaster, thing, None)),
                               (bets.do_bring, (2, forecaster, thing, None, None)),
                               (bets.scaled, (2, good, thing))):
                with self.assertRaises(BadFraction) as caught:
                    call(*args)
                self.assertIs(caught.exception.given, thing)
        for thing in ODD + wrongs.PART:
            with self.assertRaises(BadParts) as caught:
                bets.mix(2, good, good, thing)
            self.assertIs(caught.exception.given, thing)


class PricesTest(unittest.TestCase):

    def test_by_hand(self):
        forecaster = (RANGE,) * 3
        payoff = (whole(0), whole(0), whole(0), whole(4))
        # 4 if twice 1: at most 1/2 and 1/2, at least 1/3 and 1/3.
        self.assertEqual(prices.price(2, forecaster, payoff), whole(1))
        self.assertEqual(prices.sale(2, forecaster, payoff), (4, 9))
        self.assertEqual(prices.prices_behind(2, forecaster, payoff), (whole(1), whole(0), whole(2)))
        paper = prices.price_paper(2, forecaster, payoff)
        self.assertEqual(paper[0], (whole(2), whole(0), whole(4)))
        self.assertEqual(prices.check_price(2, forecaster, payoff, paper), whole(1))
        self.assertEqual(prices.price(1, (RANGE,), (whole(1), whole(0))), (2, 3))
        self.assertEqual(prices.sale(1, (RANGE,), (whole(1), whole(0))), HALF)

    def test_facts(self):
        maker = Maker(143)
        for _ in range(120):
            length, forecaster = told(maker)
            payoff, far = maker.fractions(2 ** length), maker.fractions(2 ** length)
            means = [mean_of(length, chances, payoff) for chances in corner_chances(forecaster)]
            price, sale = [worth(call(length, forecaster, payoff))
                           for call in (prices.price, prices.sale)]
            self.assertEqual((price, sale), (max(means), min(means)))
            behind = prices.prices_behind(length, forecaster, payoff)
            self.assertEqual(worth(behind[0]), price)
            self.look_behind(length, forecaster, payoff, behind)
            paper = prices.price_paper(length, forecaster, payoff)
            self.assertEqual(worth(prices.check_price(length, forecaster, payoff, paper)), price)
            self.assertEqual(mean_of(length, paper[1], payoff), price)
            self.assertIs(bets.do_bring(length, forecaster, pair_of(price), paper[0], payoff), True)
            if runs.is_exact(length, forecaster):
                self.assertEqual(price, sale)
            # Of sums, of so many times as much, of what is the same everywhere.
            both = tuple(pair_of(worth(one) + worth(other)) for one, other in zip(payoff, far))
            self.assertLessEqual(worth(prices.price(length, forecaster, both)),
                                 price + worth(prices.price(length, forecaster, far)))
            times = tuple(pair_of(worth(part) * Fraction(5, 3)) for part in payoff)
            self.assertEqual(worth(prices.price(length, forecaster, times)), price * Fraction(5, 3))
            same = (payoff[0],) * 2 ** length
            self.assertEqual(prices.price(length, forecaster, same), payoff[0])
            self.assertEqual(prices.sale(length, forecaster, same), payoff[0])
            # No CHANCES lead to more than any START that suffices.
            chances = maker.chances(forecaster)
            self.assertLessEqual(mean_of(length, chances, payoff), price)
            good = tuple(pair_of(abs(worth(part))) for part in payoff)
            start, (stakes, _) = (prices.price(length, forecaster, good),
                                  prices.price_paper(length, forecaster, good))
            self.assertIs(bets.is_safe(length, forecaster, start, stakes), True)

    def look_behind(self, length, forecaster, payoff, behind):
        there = dict(zip(all_runs(length), list(behind) + list(payoff)))
        for run, (low, high) in zip(all_runs(length - 1), forecaster):
            wanted = max(worth(part) * worth(there[run + (1,)])
                         + (1 - worth(part)) * worth(there[run + (0,)]) for part in (low, high))
            self.assertEqual(worth(there[run]), wanted)

    def test_no_lesser_start_suffices(self):
        maker = Maker(144)
        for _ in range(60):
            length, forecaster = told(maker)
            payoff = maker.fractions(2 ** length)
            price = worth(prices.price(length, forecaster, payoff))
            start = pair_of(price - Fraction(1, 10 ** 6))
            for stakes in (prices.price_paper(length, forecaster, payoff)[0],
                           maker.fractions(2 ** length - 1)):
                self.assertIs(bets.do_bring(length, forecaster, start, stakes, payoff), False)

    def refuse(self, paper, part):
        with self.assertRaises(BadPaper) as caught:
            prices.check_price(2, (RANGE,) * 3, (whole(0),) * 3 + (whole(4),), paper)
        self.assertEqual(caught.exception.part, part)

    def test_wrong_papers(self):
        stakes, chances = prices.price_paper(2, (RANGE,) * 3, (whole(0),) * 3 + (whole(4),))
        for thing in ODD:
            if not (isinstance(thing, tuple) and len(thing) == 2):
                self.refuse(thing, "form")
        for thing in ((stakes,), (stakes, chances, chances), [stakes, chances]):
            self.refuse(thing, "form")
        for thing in ODD + wrongs.STAKES:
            self.refuse((thing, chances), "bets")
            self.refuse((thing, None), "bets")
        for thing in ODD + wrongs.CHANCES:
            self.refuse((stakes, thing), "chances")
        self.refuse((stakes, ((1, 3),) * 3), "bring")
        self.refuse((stakes[::-1], chances), "bring")
        self.refuse(((whole(0),) * 3, chances), "bring")
        # Where the last PRICE behind is nought, any of the RANGE does.
        good = (stakes, (chances[0], (2, 5), chances[2]))
        self.assertEqual(prices.check_price(2, (RANGE,) * 3, (whole(0),) * 3 + (whole(4),), good),
                         whole(1))

    def test_five_days_of_60_figures(self):
        big = 10 ** 59
        forecaster = tuple((pair_of(Fraction(big // 3 + at, big + 7 * at)),
                            pair_of(Fraction(big // 2 + at, big + 11 * at))) for at in range(31))
        payoff = tuple(pair_of(Fraction(big * (at * at % 7 - 3) + at, big - at)) for at in range(32))
        paper = prices.price_paper(5, forecaster, payoff)
        price = prices.price(5, forecaster, payoff)
        self.assertEqual(prices.check_price(5, forecaster, payoff, paper), price)
        self.assertEqual(prices.prices_behind(5, forecaster, payoff)[0], price)
        self.assertLess(worth(prices.sale(5, forecaster, payoff)), worth(price))
        for run in runs.whole_runs(5):
            self.assertGreaterEqual(
                worth(bets.capital(5, forecaster, price, paper[0], run)),
                worth(payoff[runs.whole_runs(5).index(run)]))


if __name__ == "__main__":
    unittest.main()
