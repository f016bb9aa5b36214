"""TIES, UP LOTS, BEST GUESSES, LEVEL VIEWS, and what is told back of VIEWS."""

import unittest
from fractions import Fraction
from itertools import combinations

from forehouse import flows, onetables, orders, ordersback
from forehouse.errors import BadPaper, BadState, BadTies, TooMany
from forehouse.rests import is_wider
from forehouse.tellers import charge
from forehouse.views import core, forecasts, share_of
from tests.makers import Maker, pair_of, whole, world_of_integers, worth
from tests.wrongs import BETS, FRACTIONS, LOTS, ODD, TIES

# 0 below 1 below 2, 0 below 3; 4 is tied to none.
TIED = ((0, 1), (0, 3), (1, 2))
WORLD = world_of_integers((1, 4), (1, 2), (2, 3), (1, 9), (1, 0))
THREE = world_of_integers((1, 0), (1, 1), (1, 2))
SEVEN = world_of_integers(*[(1, at) for at in range(7)])
ALL_TIES = tuple(combinations(range(6), 2))


def below(many, ties):
    """All pairs of a STATE and one above it, by the words of the document."""
    pairs = set(ties)
    for middle in range(many):
        pairs |= {(low, high) for low in range(many) for high in range(many)
                  if (low, middle) in pairs and (middle, high) in pairs}
    return pairs


def lots_up(many, ties):
    pairs = below(many, ties)
    lots = [lot for size in range(many + 1) for lot in combinations(range(many), size)]
    return sorted(lot for lot in lots
                  if all(high in lot for low, high in pairs if low in lot))


def mean(world, lot):
    weight = sum(worth(world[state][0]) for state in lot)
    return sum(worth(world[state][0]) * worth(world[state][1]) for state in lot) / weight


def best_by_lots(world, ties):
    """The BEST GUESSES by the greatest and the least means of UP LOTS."""
    lots = lots_up(len(world), ties)
    told = []
    for state in range(len(world)):
        least = []
        for lot in lots:
            if state in lot:
                within = [far for far in lots if set(far) <= set(lot) and state not in far]
                least.append(min(mean(world, set(lot) - set(far)) for far in within))
        told.append(pair_of(max(least)))
    return tuple(told)


def gain(world, mark, lot):
    return sum((worth(world[state][0]) * (worth(world[state][1]) - mark) for state in lot),
               Fraction(0))


class TiesTest(unittest.TestCase):

    def test_need_ties(self):
        for ties in ((), TIED, ((4, 0),), ((0, 1), (2, 1), (4, 3))):
            self.assertIs(orders.need_ties(WORLD, ties), ties)
        six = SEVEN[:6]
        self.assertIs(orders.need_ties(six, ALL_TIES), ALL_TIES)
        self.assertEqual(len(ALL_TIES), 15)
        self.assertEqual(orders.need_ties(SEVEN[:1], ()), ())

    def test_wrong_ties(self):
        for thing in ODD + TIES:
            with self.assertRaises(BadTies) as caught:
                orders.need_ties(THREE, thing)
            self.assertIs(caught.exception.given, thing)
        # Sixteen, and without the last one fifteen with a ring of six.
        six = SEVEN[:6]
        self.assertRaises(BadTies, orders.need_ties, six, ALL_TIES + ((5, 0),))
        self.assertRaises(BadTies, orders.need_ties, six, ALL_TIES[1:] + ((5, 0),))
        self.assertRaises(BadTies, orders.need_ties, SEVEN[:1], ((0, 0),))

    def test_below_by_hand(self):
        for low in range(5):
            for high in range(5):
                wanted = (low, high) in ((0, 1), (0, 2), (0, 3), (1, 2))
                self.assertIs(orders.is_below(WORLD, TIED, low, high), wanted)
        with self.assertRaises(BadState) as caught:
            orders.is_below(WORLD, TIED, 5, 6)
        self.assertEqual(caught.exception.given, 5)
        with self.assertRaises(BadState) as caught:
            orders.is_below(WORLD, TIED, 4, 6)
        self.assertEqual(caught.exception.given, 6)

    def test_up_lots_by_hand(self):
        world = THREE
        self.assertEqual(orders.up_lots(world, ()), (
            (), (0,), (0, 1), (0, 1, 2), (0, 2), (1,), (1, 2), (2,)))
        self.assertEqual(orders.up_lots(world, ((0, 1), (1, 2))), ((), (0, 1, 2), (1, 2), (2,)))
        self.assertEqual(orders.up_lots(SEVEN[:1], ()), ((), (0,)))
        self.assertEqual(len(orders.up_lots(SEVEN[:6], ())), 64)
        self.assertEqual(len(orders.up_lots(SEVEN[:6], ALL_TIES)), 7)

    def test_by_the_words(self):
        maker = Maker(70)
        for _ in range(100):
            many = maker.between(1, 6)
            world, ties = SEVEN[:many], maker.ties(many)
            orders.need_ties(world, ties)
            pairs = below(many, ties)
            for low in range(many):
                for high in range(many):
                    self.assertEqual(orders.is_below(world, ties, low, high), (low, high) in pairs)
            self.assertEqual(list(orders.up_lots(world, ties)), lots_up(many, ties))

    def test_two_ties(self):
        far = ((0, 2), (2, 3))
        self.assertIs(orders.are_within(WORLD, ((0, 2),), TIED), True)
        self.assertIs(orders.are_within(WORLD, TIED, ((0, 2),)), False)
        self.assertIs(orders.are_within(WORLD, (), ()), True)
        self.assertIs(orders.are_within(WORLD, ((0, 3),), far), True)
        self.assertEqual(orders.common_ties(WORLD, TIED, far), ((0, 2), (0, 3)))
        self.assertEqual(orders.common_ties(WORLD, TIED, TIED), ((0, 1), (0, 2), (0, 3), (1, 2)))
        self.assertEqual(orders.common_ties(WORLD, TIED, ()), ())
        self.assertEqual(orders.put_ties(WORLD, TIED, far), ((0, 1), (0, 2), (0, 3), (1, 2), (2, 3)))
        self.assertEqual(orders.put_ties(WORLD, TIED, TIED), TIED)
        self.assertIsNone(orders.put_ties(WORLD, TIED, ((2, 0),)))
        self.assertIsNone(orders.put_ties(WORLD, TIED, ((2, 4), (4, 1))))
        self.assertEqual(orders.put_ties(WORLD, (), ()), ())

    def test_two_ties_by_the_words(self):
        maker = Maker(71)
        rings = 0
        for _ in range(150):
            many = maker.between(1, 6)
            world = tuple((maker.weight(), maker.fraction()) for _ in range(many))
            ties, far = maker.ties(many), maker.ties(many)
            near, wide = below(many, ties), below(many, far)
            common = orders.common_ties(world, ties, far)
            self.assertEqual(common, tuple(sorted(near & wide)))
            self.assertEqual(orders.are_within(world, ties, far), near <= wide)
            both = orders.put_ties(world, ties, far)
            together = below(many, set(ties) | set(far))
            ring = any(low == high for low, high in together)
            self.assertEqual(both, None if ring else tuple(sorted(set(ties) | set(far))))
            rings += ring
            shares = [share_of(world, onetables.level_view(world, some))
                      for some in (common, ties, far)]
            self.assertTrue(is_wider(shares[1], shares[0]))
            self.assertTrue(is_wider(shares[2], shares[0]))
            if both is not None:
                last = share_of(world, onetables.level_view(world, both))
                self.assertTrue(is_wider(last, shares[1]))
                self.assertTrue(is_wider(last, shares[2]))
        self.assertGreater(rings, 10)


class BestTest(unittest.TestCase):

    def test_by_hand(self):
        # 1 and 0 have the mean 3, as 2 has; 3 has 9, 4 has 0.
        best = ((3, 1), (3, 1), (3, 1), (9, 1), (0, 1))
        self.assertEqual(onetables.best_guesses(WORLD, TIED), best)
        self.assertEqual(onetables.level_view(WORLD, TIED), ((0, 1, 2), (3,), (4,)))
        self.assertEqual(onetables.best_guesses(WORLD, ()), tuple(worth for _, worth in WORLD))
        down = ((0, 1), (1, 2))
        self.assertEqual(onetables.best_guesses(THREE, down), tuple(worth for _, worth in THREE))
        up = ((1, 0), (2, 1))
        self.assertEqual(onetables.best_guesses(THREE, up), (whole(1),) * 3)
        self.assertEqual(onetables.best_guesses(THREE, ((2, 0),)), (whole(1),) * 3)
        self.assertEqual(onetables.best_guesses(SEVEN[:1], ()), (whole(0),))
        self.assertEqual(onetables.best_lot(WORLD, TIED, (3, 1)), (0, 1, 2, 3))
        self.assertEqual(onetables.best_lot(WORLD, TIED, (10, 3)), (3,))
        self.assertEqual(onetables.best_lot(WORLD, TIED, (10, 1)), ())
        self.assertEqual(onetables.gain_at(WORLD, (3, 1), (0, 1, 3)), (6, 1))
        self.assertEqual(onetables.gain_at(WORLD, (3, 1), ()), (0, 1))

    def test_rising_by_hand(self):
        same = (whole(5),) * 5
        self.assertIs(onetables.do_rise(WORLD, TIED, same), True)
        for guesses, rise in (((1, 1, 2, 1, 0), True), ((1, 0, 2, 1, 0), False),
                              ((1, 3, 2, 1, 9), False), ((0, 1, 1, 0, 9), True)):
            told = tuple(whole(guess) for guess in guesses)
            self.assertIs(onetables.do_rise(WORLD, TIED, told), rise)
        # Also by rows of TIES.
        self.assertIs(onetables.do_rise(WORLD, TIED, tuple(map(whole, (3, 3, 1, 4, 0)))), False)
        self.assertIs(onetables.does_view_rise(WORLD, TIED, ((0, 1, 2, 3, 4),)), True)
        self.assertIs(onetables.does_view_rise(WORLD, TIED, ((0, 1), (2, 3), (4,))), True)
        self.assertIs(onetables.does_view_rise(WORLD, TIED, ((0,), (1, 2, 3), (4,))), True)
        self.assertIs(onetables.does_view_rise(WORLD, TIED, ((0,), (1, 2), (3,), (4,))), False)

    def test_by_the_words(self):
        maker = Maker(72)
        for _ in range(150):
            world = maker.world()
            many = len(world)
            ties = maker.ties(many)
            best = onetables.best_guesses(world, ties)
            self.assertEqual(best, best_by_lots(world, ties))
            self.assertIs(onetables.do_rise(world, ties, best), True)
            view = onetables.level_view(world, ties)
            self.assertEqual(forecasts(world, view), best)
            self.assertEqual(core(world, view), view)
            lots = lots_up(many, ties)
            for _ in range(5):
                mark = maker.pick(best) if maker.below(2) else maker.fraction()
                lot = onetables.best_lot(world, ties, mark)
                wanted = tuple(state for state in range(many) if worth(best[state]) >= worth(mark))
                self.assertEqual(lot, wanted)
                told = onetables.gain_at(world, mark, lot)
                self.assertEqual(told, pair_of(gain(world, worth(mark), lot)))
                self.assertEqual(worth(told), max(gain(world, worth(mark), far) for far in lots))

    def test_no_guesses_that_rise_have_a_lesser_charge(self):
        maker = Maker(73)
        for _ in range(60):
            world = maker.world()
            ties = maker.ties(len(world))
            best = onetables.best_guesses(world, ties)
            for _ in range(30):
                guesses = tuple(whole(maker.between(-2, 2)) for _ in world)
                rise = all(worth(guesses[low]) <= worth(guesses[high]) for low, high in ties)
                self.assertEqual(onetables.do_rise(world, ties, guesses), rise)
                if rise:
                    for mark in maker.fractions(4) + guesses + best:
                        self.assertLessEqual(worth(charge(world, best, mark)),
                                             worth(charge(world, guesses, mark)))


class LevelTest(unittest.TestCase):

    def test_papers_by_hand(self):
        level = ((0, 1, 2), (3,), (4,))
        self.assertEqual(onetables.level_paper(WORLD, TIED, level), ("level",))
        # Not the LEVEL VIEW, but of the same SHARE.
        self.assertEqual(onetables.level_paper(WORLD, TIED, ((0, 1), (2,), (3,), (4,))), ("level",))
        self.assertIsNone(onetables.level_paper(WORLD, TIED, ((0,), (1, 2), (3,), (4,))))
        paper = onetables.level_paper(WORLD, TIED, ((0, 1, 2, 3, 4),))
        self.assertEqual(paper[0], "mark")
        self.assertEqual(onetables.check_level(WORLD, TIED, ((0, 1, 2, 3, 4),), paper), "mark")

    def test_papers(self):
        maker = Maker(74)
        seen = {"level": 0, "mark": 0, None: 0}
        for _ in range(400):
            world = maker.world()
            ties, view = maker.ties(len(world)), maker.view(len(world))
            told = forecasts(world, view)
            rises = all(worth(told[low]) <= worth(told[high]) for low, high in ties)
            self.assertEqual(onetables.does_view_rise(world, ties, view), rises)
            paper = onetables.level_paper(world, ties, view)
            self.assertEqual(paper is not None, rises)
            seen[paper and paper[0]] += 1
            if not rises:
                for thing in (("level",), ("mark", (0, 1), (0,))):
                    self.refuse(world, ties, view, thing, thing[0])
                continue
            self.assertEqual(onetables.check_level(world, ties, view, paper), paper[0])
            level = share_of(world, onetables.level_view(world, ties))
            self.assertTrue(is_wider(share_of(world, view), level))
            self.assertEqual(paper == ("level",), share_of(world, view) == level)
            self.compare(maker, world, ties, view)
        self.assertGreater(min(seen.values()), 30)

    def compare(self, maker, world, ties, view):
        """Papers with any LOT hold exactly as told."""
        share, many = share_of(world, view), len(world)
        for lot in [maker.lot(many) for _ in range(4)] + [(), tuple(range(many))]:
            mark = maker.fraction()
            holds = 0 < len(lot) < many and lot in lots_up(many, ties)
            if holds:
                rest = tuple(state for state in range(many) if state not in lot)
                part = tuple(sorted((lot, rest)))
                means = [mean(world, rest), mean(world, lot)]
                holds = onetables.does_view_rise(world, ties, part) and sum(
                    sum(worth(world[state][0]) for state in cell) * max(value - worth(mark), 0)
                    for cell, value in zip((rest, lot), means)) > sum(
                    worth(weight) * max(worth(number) - worth(mark), 0) for number, weight in share)
            paper = ("mark", mark, lot)
            if holds:
                self.assertEqual(onetables.check_level(world, ties, view, paper), "mark")
            else:
                self.refuse(world, ties, view, paper, "mark")

    def test_which_papers_hold(self):
        whole_view = ((0, 1, 2),)
        ties = ((0, 1),)
        each = ((0,), (1,), (2,))
        self.assertEqual(onetables.check_level(THREE, ties, each, ("level",)), "level")
        self.refuse(THREE, ties, whole_view, ("level",), "level")
        self.assertEqual(
            onetables.check_level(THREE, ties, whole_view, ("mark", (1, 1), (1, 2))), "mark")
        for lot in ((2,), (0, 1)):
            self.assertEqual(
                onetables.check_level(THREE, ties, whole_view, ("mark", (1, 1), lot)), "mark")
        for mark, lot in (((1, 1), (0, 2)), ((1, 1), ()), ((1, 1), (0, 1, 2)), ((2, 1), (2,)),
                          ((0, 1), (1, 2)), ((1, 1), (2, 1)), ((1, 1), (3,)), ((1, 1), (0,))):
            self.refuse(THREE, ties, whole_view, ("mark", mark, lot), "mark")
        self.refuse(THREE, ties, each, ("mark", (1, 1), (2,)), "mark")
        # This one has the SHARE of the LEVEL VIEW, but does not rise.
        world = world_of_integers((1, 0), (1, 2), (1, 0), (1, 2))
        ties, fallen = ((1, 0),), ((0,), (1,), (2, 3))
        self.assertEqual(share_of(world, fallen), share_of(world, onetables.level_view(world, ties)))
        self.refuse(world, ties, fallen, ("level",), "level")
        ties = ((0, 1),)
        for thing in ODD + FRACTIONS:
            self.refuse(THREE, ties, whole_view, ("mark", thing, (2,)), "mark")
        for thing in ODD + LOTS:
            self.refuse(THREE, ties, whole_view, ("mark", (1, 1), thing), "mark")
        for thing in ODD + (("level", 0), ("mark", (1, 1)), ("mark",), ["level"], "level",
                            ("mark", (1, 1), (2,), 0), ("best",), ("fall", 0, 1)):
            self.refuse(THREE, ties, whole_view, thing, "form")

    def refuse(self, world, ties, view, paper, part):
        with self.assertRaises(BadPaper) as caught:
            onetables.check_level(world, ties, view, paper)
        self.assertEqual(caught.exception.part, part)


class FlowsTest(unittest.TestCase):

    def is_flow(self, world, ties, guesses, flow):
        pairs = [(low, high) for low, high, _ in flow]
        left = [worth(weight) * (worth(number) - worth(guess))
                for (weight, number), guess in zip(world, guesses)]
        for low, high, amount in flow:
            left[low] -= worth(amount)
            left[high] += worth(amount)
            if amount[0] <= 0 or guesses[low] != guesses[high]:
                return False
        return (pairs == sorted(set(pairs)) and set(pairs) <= below(len(world), ties)
                and not any(left))

    def test_by_hand(self):
        self.assertEqual(flows.flow_of(THREE, ((2, 0),)), ((2, 0, (1, 1)),))
        self.assertEqual(flows.flow_of(THREE, ((1, 0), (2, 1))), ((2, 0, (1, 1)),))
        self.assertEqual(flows.flow_of(THREE, ()), ())
        self.assertEqual(flows.flow_of(WORLD, TIED), ((0, 1, (1, 1)),))
        self.assertEqual(flows.flow_of(SEVEN[:1], ()), ())
        self.assertEqual(flows.guesses_paper(THREE, ((2, 0),), (whole(1),) * 3),
                         ("best", ((2, 0, (1, 1)),)))
        self.assertEqual(flows.guesses_paper(THREE, ((0, 1),), tuple(map(whole, (1, 0, 0)))),
                         ("fall", 0, 1))

    def test_papers(self):
        maker = Maker(75)
        seen = {"best": 0, "fall": 0, "mark": 0}
        for _ in range(500):
            world = maker.world()
            many = len(world)
            ties = maker.ties(many)
            best = onetables.best_guesses(world, ties)
            flow = flows.flow_of(world, ties)
            self.assertTrue(self.is_flow(world, ties, best, flow))
            guesses = best
            if maker.below(3):
                guesses = tuple(maker.pick((guess, maker.fraction(-2, 2, 2))) for guess in best)
            if maker.below(3) == 0:
                guesses = forecasts(world, maker.view(many))
            paper = flows.guesses_paper(world, ties, guesses)
            seen[paper[0]] += 1
            self.assertEqual(flows.check_guesses(world, ties, guesses, paper), paper[0])
            self.assertEqual(paper[0] == "best", guesses == best)
            self.holds(world, ties, guesses, paper)
            if guesses == best:
                for lot in lots_up(many, ties):
                    for mark in maker.fractions(2) + best:
                        self.refuse(world, ties, best, ("mark", mark, lot), "mark")
            else:
                self.refuse(world, ties, guesses, ("best", flow), "best")
        self.assertGreater(min(seen.values()), 30)

    def holds(self, world, ties, guesses, paper):
        if paper[0] == "best":
            self.assertTrue(self.is_flow(world, ties, guesses, paper[1]))
        elif paper[0] == "fall":
            self.assertIn(paper[1:], below(len(world), ties))
            self.assertGreater(worth(guesses[paper[1]]), worth(guesses[paper[2]]))
        else:
            mark, lot = worth(paper[1]), paper[2]
            self.assertIn(lot, lots_up(len(world), ties))
            own = [state for state, guess in enumerate(guesses) if worth(guess) >= mark]
            self.assertGreater(gain(world, mark, lot), gain(world, mark, own))

    def test_marks_between_two_guesses(self):
        # 0 and 2 have the same mean as 1: apart from the BEST GUESS 1 only between.
        world = world_of_integers((1, 1))
        for guess in ((3, 1), (-3, 1), (1, 2)):
            paper = flows.guesses_paper(world, (), (guess,))
            self.assertEqual(flows.check_guesses(world, (), (guess,), paper), "mark")
        self.assertEqual(flows.check_guesses(world, (), ((3, 1),), ("mark", (2, 1), ())), "mark")
        self.assertEqual(flows.check_guesses(world, (), ((-3, 1),), ("mark", (0, 1), (0,))), "mark")

    def test_which_papers_hold(self):
        ties = ((2, 0), (2, 1))
        best = (whole(1),) * 3
        world = world_of_integers((2, 0), (2, 1), (1, 3))
        good = ("best", ((2, 0, (2, 1)),))
        self.assertEqual(flows.check_guesses(world, ties, best, good), "best")
        more = ((2, 0, (2, 1)), (2, 1, (1, 1)))
        for flow in ODD + ((), more, ((2, 0, (1, 1)),), ((2, 0, (2, 1)),) * 2, ((0, 2, (2, 1)),),
                           [(2, 0, (2, 1))], ((2, 0),), ((2, 0, (2, 1), 0),), ((2, 0, (4, 2)),),
                           ((2, 0, 2),), ((2, 3, (2, 1)),), ((-1, 0, (2, 1)),), ([2, 0, (2, 1)],),
                           ((2, 0, (1, 1)), (2, 0, (1, 1))), ((2, 0, (2, 1)), (2, 1, (0, 1))),
                           ((2, True, (2, 1)),), ((2, False, (2, 1)),)):
            self.refuse(world, ties, best, ("best", flow), "best")
        for low in list(range(-1, 4)) + list(ODD):
            for high in (0, 1, 2, 3, -1, None, True):
                self.refuse(world, ties, best, ("fall", low, high), "fall")
        falling = tuple(map(whole, (1, 2, 3)))
        self.assertEqual(flows.check_guesses(world, ties, falling, ("fall", 2, 0)), "fall")
        for pair in ((0, 2), (0, 1), (2, 2), (1, 0)):
            self.refuse(world, ties, falling, ("fall",) + pair, "fall")
        # A MARK may show it where GUESSES fall, too.
        self.assertEqual(flows.check_guesses(world, ties, falling, ("mark", (2, 1), ())), "mark")
        for mark, lot in (((1, 1), (0, 1, 2)), ((5, 4), (2,)), ((9, 1), ()), ((0, 1), (0, 1, 2))):
            self.refuse(world, ties, falling, ("mark", mark, lot), "mark")
        for thing in ODD + FRACTIONS:
            self.refuse(world, ties, falling, ("mark", thing, ()), "mark")
        for thing in ODD + LOTS:
            self.refuse(world, ties, falling, ("mark", (2, 1), thing), "mark")
        for thing in ODD + (("best",), ("best", (), 0), ("fall", 2), ("mark", (1, 1)), ["best", ()],
                            ("level",), "best", ("fall", 2, 0, 0)):
            self.refuse(world, ties, falling, thing, "form")

    def test_a_flow_does_not_hold_where_guesses_fall(self):
        world = world_of_integers((1, 1), (1, 0))
        guesses = (whole(1), whole(0))
        self.assertEqual(flows.check_guesses(world, (), guesses, ("best", ())), "best")
        self.refuse(world, ((0, 1),), guesses, ("best", ()), "best")

    def refuse(self, world, ties, guesses, paper, part):
        with self.assertRaises(BadPaper) as caught:
            flows.check_guesses(world, ties, guesses, paper)
        self.assertEqual(caught.exception.part, part)


class BackTest(unittest.TestCase):

    def test_chains_by_hand(self):
        # Means: (0, 3) has 13/2, (1, 2) has 8/3, (4,) has 0.
        view = ((0, 3), (1, 2), (4,))
        self.assertEqual(ordersback.chain_of(WORLD, view), (4, 2, 1, 3, 0))
        self.assertEqual(ordersback.chain_ties(WORLD, view), ((1, 3), (2, 1), (3, 0), (4, 2)))
        # Alike means go as tuples, alike WORTHS by numbers.
        same = world_of_integers((1, 2), (1, 1), (1, 3), (1, 2), (1, 2))
        self.assertEqual(ordersback.chain_of(same, ((0, 3), (1, 2), (4,))), (0, 3, 2, 1, 4))
        self.assertEqual(ordersback.chain_of(same, ((0,), (1, 2, 3), (4,))), (0, 2, 3, 1, 4))
        self.assertEqual(ordersback.chain_of(THREE[:1], ((0,),)), (0,))
        self.assertEqual(ordersback.chain_ties(THREE[:1], ((0,),)), ())

    def test_chains_lead_back(self):
        maker = Maker(76)
        for _ in range(150):
            world = maker.world()
            view = maker.view(len(world))
            ties = ordersback.chain_ties(world, view)
            orders.need_ties(world, ties)
            self.assertEqual(onetables.best_guesses(world, ties), forecasts(world, view))
            self.assertEqual(onetables.level_view(world, ties), core(world, view))
            chain = ordersback.chain_of(world, view)
            self.assertEqual(ties, tuple(sorted(zip(chain, chain[1:]))))
            keys = [(worth(forecasts(world, view)[state]),
                     next(cell for cell in view if state in cell),
                     -worth(world[state][1]), state) for state in chain]
            self.assertEqual(keys, sorted(keys))
            self.assertEqual(sorted(chain), list(range(len(world))))

    def test_all_views(self):
        self.assertEqual(ordersback.all_views(THREE[:1]), (((0,),),))
        self.assertEqual(ordersback.all_views(THREE), (
            ((0,), (1,), (2,)), ((0,), (1, 2)), ((0, 1), (2,)), ((0, 1, 2),), ((0, 2), (1,))))
        self.assertEqual(len(ordersback.all_views(SEVEN[:5])), 52)

    def test_all_level_shares(self):
        maker = Maker(77)
        for _ in range(25):
            world = tuple((maker.weight(), whole(maker.between(0, 2)))
                          for _ in range(maker.between(1, 3)))
            many = len(world)
            shares = {}
            pairs = [(low, high) for low in range(many) for high in range(many) if low != high]
            for size in range(len(pairs) + 1):
                for ties in combinations(pairs, size):
                    if not any(low == high for low, high in below(many, ties)):
                        view = onetables.level_view(world, tuple(sorted(ties)))
                        shares[share_of(world, view)] = True
            wanted = sorted(shares, key=lambda share: [
                (worth(number), worth(weight)) for number, weight in share])
            self.assertEqual(list(ordersback.all_level_shares(world)), wanted)

    def test_too_many(self):
        for call in (ordersback.all_views, ordersback.all_level_shares):
            for world in (SEVEN[:6], SEVEN):
                with self.assertRaises(TooMany) as caught:
                    call(world)
                self.assertEqual(caught.exception.most, 5)


class SevenTest(unittest.TestCase):

    def test_seven_states_come_ahead_of_all_else(self):
        calls = ((orders.need_ties, 1), (orders.is_below, 3), (orders.up_lots, 1),
                 (orders.are_within, 2), (orders.common_ties, 2), (orders.put_ties, 2),
                 (onetables.do_rise, 2), (onetables.best_guesses, 1), (onetables.gain_at, 2),
                 (onetables.best_lot, 2), (onetables.does_view_rise, 2), (onetables.level_view, 1),
                 (onetables.level_paper, 2), (onetables.check_level, 3), (flows.flow_of, 1),
                 (flows.guesses_paper, 2), (flows.check_guesses, 3), (ordersback.chain_of, 1),
                 (ordersback.chain_ties, 1))
        for call, many in calls:
            for world in (SEVEN, SEVEN * 5):
                with self.assertRaises(TooMany) as caught:
                    call(world, *[None] * many)
                self.assertEqual(caught.exception.most, 6)

    def test_wrong_guesses(self):
        for thing in BETS:
            self.assertRaises(ValueError, onetables.do_rise, THREE, (), thing)

    def test_great_numbers_of_figures(self):
        big = 10 ** 59
        world = tuple(((big + at, big - 7 * at - 1), (big + 3 * at, big + 7)) for at in range(6))
        world = tuple((pair_of(worth(weight)), pair_of(worth(number))) for weight, number in world)
        ties = ALL_TIES
        best = onetables.best_guesses(world, ties)
        self.assertEqual(flows.guesses_paper(world, ties, best)[0], "best")
        down = tuple(sorted((high, low) for low, high in ALL_TIES))
        paper = flows.guesses_paper(world, down, onetables.best_guesses(world, down))
        self.assertEqual(paper[0], "best")
        self.assertGreater(len(paper[1]), 2)


if __name__ == "__main__":
    unittest.main()
