"""Agreeing, and betting against one another."""

import unittest

from forehouse import agree
from forehouse.errors import BadPaper
from forehouse.views import forecasts, meet_of, mean_of
from tests.makers import Maker, whole, world_of_integers
from tests.wrongs import ODD

WORLD = world_of_integers((1, 0), (1, 4), (1, 4), (1, 0), (2, 9))
ROWS = ((0, 1), (2, 3), (4,))
COLS = ((0, 2), (1, 3), (4,))
BET = tuple(whole(part) for part in (3, -1, -1, 1, 5))


class AgreeTest(unittest.TestCase):

    def test_agreed_by_hand(self):
        # All four have the mean 2 in both VIEWS; the last one stands alone.
        self.assertEqual([agree.agreed(WORLD, (ROWS, COLS), at) for at in range(5)],
                         [(2, 1), (2, 1), (2, 1), (2, 1), (9, 1)])
        each = ((0,), (1,), (2,), (3,), (4,))
        self.assertIsNone(agree.agreed(WORLD, (ROWS, each), 0))
        self.assertEqual(agree.agreed(WORLD, (ROWS, each), 4), (9, 1))
        self.assertEqual(agree.agreed(WORLD, (each,), 1), (4, 1))

    def test_where_each_has_one_forecast_it_is_the_mean(self):
        maker = Maker(8)
        for _ in range(300):
            many = maker.between(1, 5)
            world = tuple((whole(1), whole(maker.below(2))) for _ in range(many))
            views = tuple(maker.view(many) for _ in range(maker.between(1, 3)))
            for state in range(many):
                cell = next(cell for cell in meet_of(world, views) if state in cell)
                told = [{forecasts(world, view)[at] for at in cell} for view in views]
                got = agree.agreed(world, views, state)
                if all(len(some) == 1 for some in told):
                    self.assertEqual(got, mean_of(world, cell))
                    self.assertEqual(told, [{got}] * len(views))
                else:
                    self.assertIsNone(got)

    def test_takes_and_gives(self):
        self.assertEqual([agree.takes(WORLD, ROWS, BET, at) for at in range(5)],
                         [True, True, False, False, True])
        self.assertEqual([agree.gives(WORLD, ROWS, BET, at) for at in range(5)],
                         [False] * 5)
        less = tuple(whole(part) for part in (-3, 1, 1, -2, 0))
        self.assertEqual([agree.takes(WORLD, ROWS, less, at) for at in range(5)], [False] * 5)
        self.assertEqual([agree.gives(WORLD, ROWS, less, at) for at in range(5)],
                         [True, True, True, True, False])
        # By WEIGHTS: -1 twice is as much as 2 once.
        world = world_of_integers((2, 0), (1, 0))
        bet = (whole(-1), whole(2))
        self.assertFalse(agree.takes(world, ((0, 1),), bet, 0))
        self.assertFalse(agree.gives(world, ((0, 1),), bet, 0))

    def test_ways_of_bets(self):
        maker = Maker(9)
        for _ in range(300):
            world = maker.world()
            many = len(world)
            view, other = maker.view(many), maker.view(many)
            bet = maker.fractions(many)
            for state in range(many):
                paper = agree.bet_way(world, view, other, bet, state)
                self.assertIsNone(agree.check_bet(world, view, other, bet, state, paper))
                states, _ = paper
                self.assertEqual(states[0], state)
                end = states[-1]
                self.assertFalse(agree.takes(world, view, bet, end)
                                 and agree.gives(world, other, bet, end))
                for at in states[:-1]:
                    self.assertTrue(agree.takes(world, view, bet, at)
                                    and agree.gives(world, other, bet, at))


class PapersTest(unittest.TestCase):
    """A row of three STATES: at 0 the first one takes and the second one gives."""

    WORLD = world_of_integers((1, 0), (1, 0), (1, 0))
    VIEW = ((0, 1), (2,))
    OTHER = ((0,), (1, 2))
    BET = (whole(-1), whole(2), whole(0))

    def refuse(self, paper, part, state=0):
        with self.assertRaises(BadPaper) as caught:
            agree.check_bet(self.WORLD, self.VIEW, self.OTHER, self.BET, state, paper)
        self.assertEqual(caught.exception.part, part)

    def test_by_hand(self):
        self.assertTrue(agree.takes(self.WORLD, self.VIEW, self.BET, 0))
        self.assertTrue(agree.gives(self.WORLD, self.OTHER, self.BET, 0))
        self.assertFalse(agree.gives(self.WORLD, self.OTHER, self.BET, 1))
        paper = agree.bet_way(self.WORLD, self.VIEW, self.OTHER, self.BET, 0)
        self.assertEqual(paper, ((0, 1), (0,)))
        self.assertEqual(agree.bet_way(self.WORLD, self.VIEW, self.OTHER, self.BET, 1), ((1,), ()))

    def test_what_does_not_hold(self):
        for paper in (((0,), ()), ((0, 1), (1,)), ((0, 1, 2), (0, 1)), ((1,), ()), ((0, 2), (0,)),
                      ((), ()), ((0, 1), ()), ((0, 1), (0, 0)), ([0, 1], (0,)), ((0, 1), [0]),
                      ((0, True), (0,)), ((0, 1), (False,)), ((0, 3), (0,)), ((0, 1), (2,))):
            self.refuse(paper, "way")
        for thing in ODD:
            self.refuse((thing, (0,)), "way")
            self.refuse(((0, 1), thing), "way")
            self.refuse(((0, thing), (0,)), "way")
            self.refuse(((0, 1), (thing,)), "way")

    def test_as_long_as_needed_but_from_or_to_elsewhere(self):
        # Four STATES in a row, the last one alone not to be given.
        world = world_of_integers((1, 0), (1, 0), (1, 0), (1, 0))
        view, other = ((0, 1), (2, 3)), ((0,), (1, 2), (3,))
        bet = tuple(whole(part) for part in (-1, 3, -4, 5))
        self.assertEqual([at for at in range(4) if agree.takes(world, view, bet, at)
                          and agree.gives(world, other, bet, at)], [0, 1, 2])
        paper = agree.bet_way(world, view, other, bet, 1)
        self.assertEqual(paper, ((1, 2, 3), (1, 0)))
        self.assertIsNone(agree.check_bet(world, view, other, bet, 1, paper))
        for wrong in (((3, 2, 1), (0, 1)), ((0, 1, 2), (0, 1)), ((2, 1, 0), (1, 0))):
            self.assertRaises(BadPaper, agree.check_bet, world, view, other, bet, 1, wrong)
        one_on = ((1, 2), (1,))
        self.assertRaises(BadPaper, agree.check_bet, world, view, other, bet, 2, one_on)
        self.assertRaises(BadPaper, agree.check_bet, world, view, other, bet, 2, ((2, 1), (1,)))
        self.assertRaises(BadPaper, agree.check_bet, world, view, other, bet, 1, ((2, 3), (0,)))
        # From another STATE to the right one, and from the right one to a wrong one.
        blind, parted = ((0, 1, 2, 3),), ((0, 1, 2), (3,))
        wide = (whole(-1), whole(-1), whole(-1), whole(9))
        self.assertEqual(agree.bet_way(world, blind, parted, wide, 0), ((0, 3), (0,)))
        self.assertIsNone(agree.check_bet(world, blind, parted, wide, 0, ((0, 3), (0,))))
        for wrong in (((1, 3), (0,)), ((0, 1), (0,)), ((0, 1), (1,))):
            self.assertRaises(BadPaper, agree.check_bet, world, blind, parted, wide, 0, wrong)

    def test_forms(self):
        for paper in ODD + ((), ((0, 1),), ((0, 1), (0,), ()), [(0, 1), (0,)], 7):
            part = "way" if isinstance(paper, tuple) and len(paper) == 2 else "form"
            self.refuse(paper, part)


if __name__ == "__main__":
    unittest.main()
