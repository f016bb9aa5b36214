"""WORLDS and VIEWS."""

import unittest
from fractions import Fraction

from forehouse import views
from forehouse.errors import BadBet, BadEvent, BadPaper, BadView, BadWorld, TooMany
from forehouse.rests import is_wider
from tests.makers import Maker, pair_of, whole, world_of_integers, worth
from tests.wrongs import BETS, LOTS, ODD, VIEWS, WORLDS

# Four STATES: the means of (0, 1) is 2, of (2, 3) is 5.
WORLD = world_of_integers((1, 0), (2, 3), (1, 8), (3, 4))
HALVES = ((0, 1), (2, 3))
CROSS = ((0, 2), (1, 3))
ALL = ((0, 1, 2, 3),)
EACH = ((0,), (1,), (2,), (3,))
THREE = world_of_integers((1, 0), (1, 1), (1, 2))


def cell_of(view, state):
    return next(cell for cell in view if state in cell)


def are_linked(some, many):
    """The pairs of STATES between which there is a row of neighbours."""
    linked = {(a, b) for view in some for cell in view for a in cell for b in cell}
    for middle in range(many):
        linked |= {(a, b) for a in range(many) for b in range(many)
                   if (a, middle) in linked and (middle, b) in linked}
    return linked


class WorldsTest(unittest.TestCase):

    def test_need_world_gives_the_thing_itself(self):
        for world in (WORLD, THREE, (((1, 2), (-1, 3)),), (((1, 1), (0, 1)),) * 36):
            self.assertIs(views.need_world(world), world)

    def test_wrong_worlds_tell_the_part(self):
        for thing in ODD + (7, (), (((1, 1), (1, 1)),) * 37):
            part = 0 if isinstance(thing, tuple) and 0 < len(thing) < 37 else "form"
            with self.assertRaises(BadWorld) as caught:
                views.need_world(thing)
            self.assertEqual(caught.exception.part, part)
        for thing in WORLDS:
            self.assertRaises(BadWorld, views.need_world, thing)
        good = ((1, 1), (1, 1))
        for bad in (None, ((0, 1), (1, 1)), ((1, 1), (2, 4)), [(1, 1), (1, 1)], ((1, 1),)):
            with self.assertRaises(BadWorld) as caught:
                views.need_world((good, good, bad, bad))
            self.assertEqual(caught.exception.part, 2)

    def test_need_view(self):
        for view in (HALVES, CROSS, ALL, EACH):
            self.assertIs(views.need_view(WORLD, view), view)
        one = (((1, 1), (5, 1)),)
        self.assertEqual(views.need_view(one, ((0,),)), ((0,),))
        for thing in ODD + VIEWS:
            with self.assertRaises(BadView) as caught:
                views.need_view(THREE, thing)
            self.assertIs(caught.exception.given, thing)

    def test_a_view_of_36_states(self):
        world = tuple((whole(1), whole(at)) for at in range(36))
        each = tuple((at,) for at in range(36))
        self.assertEqual(views.forecasts(world, each), tuple(whole(at) for at in range(36)))
        self.assertEqual(views.share_of(world, (tuple(range(36)),)), (((35, 2), (36, 1)),))
        with self.assertRaises(TooMany) as caught:
            views.share_of(world, each)
        self.assertEqual(caught.exception.most, 6)


class MeansTest(unittest.TestCase):

    def test_mean_of_a_cell(self):
        self.assertEqual(views.mean_of(WORLD, (0, 1)), (2, 1))
        self.assertEqual(views.mean_of(WORLD, (2, 3)), (5, 1))
        self.assertEqual(views.mean_of(WORLD, (0, 1, 2, 3)), (26, 7))
        self.assertEqual(views.mean_of(WORLD, (1,)), (3, 1))
        for thing in ODD + LOTS + ((),):
            with self.assertRaises(BadEvent) as caught:
                views.mean_of(THREE, thing)
            self.assertIs(caught.exception.given, thing)

    def test_forecasts_and_shares(self):
        self.assertEqual(views.forecasts(WORLD, HALVES), ((2, 1), (2, 1), (5, 1), (5, 1)))
        self.assertEqual(views.share_of(WORLD, HALVES), (((2, 1), (3, 1)), ((5, 1), (4, 1))))
        self.assertEqual(views.share_of(WORLD, ALL), (((26, 7), (7, 1)),))
        # Two CELLS with the same mean are one pair of the SHARE.
        world = world_of_integers((1, 2), (2, 2), (1, 0))
        self.assertEqual(views.share_of(world, ((0,), (1,), (2,))),
                         (((0, 1), (1, 1)), ((2, 1), (3, 1))))

    def test_six_and_seven_unlike_forecasts(self):
        six = tuple((whole(1), whole(at)) for at in range(6))
        seven = tuple((whole(1), whole(at)) for at in range(7))
        self.assertEqual(len(views.share_of(six, tuple((at,) for at in range(6)))), 6)
        self.assertRaises(TooMany, views.share_of, seven, tuple((at,) for at in range(7)))
        alike = tuple((whole(1), whole(at % 6)) for at in range(9))
        self.assertEqual(len(views.share_of(alike, tuple((at,) for at in range(9)))), 6)

    def test_forecasts_by_the_words_of_the_document(self):
        maker = Maker(3)
        for _ in range(200):
            world = maker.world()
            view = maker.view(len(world))
            told = []
            for state in range(len(world)):
                cell = cell_of(view, state)
                weight = sum(worth(world[at][0]) for at in cell)
                told.append(pair_of(sum(worth(world[at][0]) * worth(world[at][1])
                                        for at in cell) / weight))
            self.assertEqual(views.forecasts(world, view), tuple(told))
            share = views.share_of(world, view)
            self.assertEqual(sum((worth(weight) for _, weight in share), Fraction(0)),
                             sum(worth(state[0]) for state in world))
            self.assertEqual(sorted(set(told), key=worth), [number for number, _ in share])


class JoinsTest(unittest.TestCase):

    def test_join_and_meet_by_hand(self):
        self.assertEqual(views.join_of(WORLD, (HALVES, CROSS)), EACH)
        self.assertEqual(views.meet_of(WORLD, (HALVES, CROSS)), ALL)
        self.assertEqual(views.join_of(WORLD, (HALVES,)), HALVES)
        self.assertEqual(views.meet_of(WORLD, (HALVES, HALVES)), HALVES)
        self.assertEqual(views.join_of(WORLD, (ALL, ALL, ALL, ALL)), ALL)
        chain = (((0, 1), (2,), (3,)), ((0,), (1, 2), (3,)))
        self.assertEqual(views.meet_of(WORLD, chain), ((0, 1, 2), (3,)))
        self.assertEqual(views.join_of(WORLD, chain), EACH)

    def test_join_and_meet_by_the_words_of_the_document(self):
        maker = Maker(4)
        for _ in range(150):
            many = maker.between(1, 7)
            world = tuple((whole(1), whole(at)) for at in range(many))
            some = tuple(maker.view(many) for _ in range(maker.between(1, 4)))
            join, meet = views.join_of(world, some), views.meet_of(world, some)
            linked = are_linked(some, many)
            views.need_view(world, join)
            views.need_view(world, meet)
            for a in range(many):
                for b in range(many):
                    together = all(b in cell_of(view, a) for view in some)
                    self.assertEqual(b in cell_of(join, a), together)
                    self.assertEqual(b in cell_of(meet, a), (a, b) in linked)
            for view in some:
                self.assertTrue(views.is_finer(world, join, view))
                self.assertTrue(views.is_finer(world, view, meet))

    def test_core(self):
        world = world_of_integers((1, 2), (2, 2), (1, 0), (1, 4))
        self.assertEqual(views.core(world, EACH), ((0, 1), (2,), (3,)))
        self.assertEqual(views.core(world, ((0,), (1,), (2, 3))), ALL)
        self.assertEqual(views.core(WORLD, HALVES), HALVES)
        maker = Maker(5)
        for _ in range(100):
            world = maker.world()
            view, other = maker.view(len(world)), maker.view(len(world))
            core = views.core(world, view)
            self.assertTrue(views.is_finer(world, view, core))
            self.assertEqual(views.forecasts(world, core), views.forecasts(world, view))
            if views.is_finer(world, view, other):
                alike = views.share_of(world, view) == views.share_of(world, other)
                self.assertEqual(alike, views.is_finer(world, other, core))

    def test_view_by(self):
        self.assertEqual(views.view_by(WORLD, ((1, 1), (1, 2), (1, 1), (0, 1))),
                         ((0, 2), (1,), (3,)))
        self.assertEqual(views.view_by(WORLD, ((1, 1),) * 4), ALL)
        for thing in ODD + BETS:
            with self.assertRaises(BadBet) as caught:
                views.view_by(THREE, thing)
            self.assertIs(caught.exception.given, thing)


class FinerTest(unittest.TestCase):

    def test_by_hand(self):
        self.assertIs(views.is_finer(WORLD, EACH, HALVES), True)
        self.assertIs(views.is_finer(WORLD, HALVES, HALVES), True)
        self.assertIs(views.is_finer(WORLD, HALVES, ALL), True)
        self.assertIs(views.is_finer(WORLD, HALVES, CROSS), False)
        self.assertIs(views.is_finer(WORLD, ALL, HALVES), False)
        self.assertEqual(views.finer_paper(WORLD, EACH, CROSS), ("finer",))
        paper = views.finer_paper(WORLD, HALVES, CROSS)
        self.assertIn(paper, (("apart", 0, 1), ("apart", 2, 3)))

    def test_a_paper_is_told_and_holds(self):
        maker = Maker(6)
        for _ in range(200):
            world = maker.world()
            view, other = maker.view(len(world)), maker.view(len(world))
            paper = views.finer_paper(world, view, other)
            self.assertEqual(views.check_finer(world, view, other, paper), paper[0])
            finer = all(set(cell) <= set(cell_of(other, cell[0])) for cell in view)
            self.assertEqual(paper == ("finer",), finer)
            self.assertEqual(views.is_finer(world, view, other), finer)
            if finer:
                self.assertTrue(is_wider(views.share_of(world, other),
                                         views.share_of(world, view)))

    def test_which_papers_hold(self):
        for a in range(-1, 6):
            for b in range(-1, 6):
                paper = ("apart", a, b)
                if (a, b) in ((0, 1), (2, 3)):
                    self.assertEqual(views.check_finer(WORLD, HALVES, CROSS, paper), "apart")
                else:
                    self.refuse(HALVES, CROSS, paper, "apart")
        self.refuse(HALVES, HALVES, ("apart", 0, 1), "apart")
        self.refuse(ALL, HALVES, ("apart", 2, 3), "apart")
        self.assertEqual(views.check_finer(WORLD, ALL, HALVES, ("apart", 1, 2)), "apart")
        self.refuse(HALVES, CROSS, ("finer",), "finer")
        self.refuse(EACH, CROSS, ("apart", 0, 1), "apart")
        for thing in ODD:
            self.refuse(HALVES, CROSS, thing, "form")
            self.refuse(HALVES, CROSS, ("apart", 0, thing), "apart")
            self.refuse(HALVES, CROSS, ("apart", thing, 1), "apart")
            self.refuse(HALVES, CROSS, (thing, 0, 1), "form")
        for paper in ((), ("apart",), ("apart", 0), ("apart", 0, 1, 2), ("finer", 0), ["finer"],
                      ("far",), ("finer", 0, 1), "finer", ("apart", 0, 1, ())):
            self.refuse(HALVES, CROSS, paper, "form")

    def refuse(self, view, other, paper, part):
        with self.assertRaises(BadPaper) as caught:
            views.check_finer(WORLD, view, other, paper)
        self.assertEqual(caught.exception.part, part)


if __name__ == "__main__":
    unittest.main()
