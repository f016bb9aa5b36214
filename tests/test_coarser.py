"""Coarser VIEWS and their SHARES."""

import unittest

from forehouse import coarser
from forehouse.errors import BadShare, TooMany
from forehouse.rests import is_wider
from forehouse.views import is_finer, need_view, share_of
from tests.makers import Maker, whole, world_of_integers, worth
from tests.wrongs import ODD, SHARES

THREE = world_of_integers((1, 0), (1, 3), (1, 6))
EACH = ((0,), (1,), (2,))


class CoarserTest(unittest.TestCase):

    def test_by_hand(self):
        views = (((0,), (1,), (2,)), ((0,), (1, 2)), ((0, 1), (2,)), ((0, 1, 2),), ((0, 2), (1,)))
        self.assertEqual(coarser.coarser_views(THREE, EACH), views)
        one = (((3, 1), (3, 1)),)
        self.assertEqual(coarser.coarser_shares(THREE, EACH), (
            (((0, 1), (1, 1)), ((3, 1), (1, 1)), ((6, 1), (1, 1))),
            (((0, 1), (1, 1)), ((9, 2), (2, 1))),
            (((3, 2), (2, 1)), ((6, 1), (1, 1))), one))
        self.assertEqual(coarser.coarser_with(THREE, EACH, one), ((0, 1, 2),))
        self.assertIsNone(coarser.coarser_with(THREE, EACH, (((3, 1), (4, 1)),)))

    def test_how_many_there_are(self):
        for many, partitions in ((1, 1), (2, 2), (3, 5), (4, 15), (5, 52), (6, 203)):
            world = tuple((whole(1), whole(2 ** at)) for at in range(many))
            each = tuple((at,) for at in range(many))
            views = coarser.coarser_views(world, each)
            self.assertEqual(len(set(views)), partitions)
            self.assertEqual(views, tuple(sorted(views)))

    def test_seven_cells_are_too_many(self):
        world = tuple((whole(1), whole(at)) for at in range(7))
        seven = tuple((at,) for at in range(7))
        for call in (coarser.coarser_views, coarser.coarser_shares):
            with self.assertRaises(TooMany) as caught:
                call(world, seven)
            self.assertEqual(caught.exception.most, 6)
        with self.assertRaises(TooMany) as caught:
            coarser.coarser_with(world, seven, (((3, 1), (7, 1)),))
        self.assertEqual(caught.exception.most, 6)
        for thing in ODD + SHARES:
            with self.assertRaises(BadShare) as caught:
                coarser.coarser_with(world, seven, thing)
            self.assertIs(caught.exception.given, thing)
        six = ((0, 6),) + seven[1:6]
        self.assertEqual(len(coarser.coarser_views(world, six)), 203)

    def test_shares_ascend_by_worth_and_are_unlike(self):
        maker = Maker(12)
        for _ in range(25):
            world = maker.world()
            view = maker.view(len(world))
            views = coarser.coarser_views(world, view)
            shares = coarser.coarser_shares(world, view)
            keys = [[(worth(number), worth(weight)) for number, weight in share]
                    for share in shares]
            self.assertEqual(keys, sorted(keys))
            self.assertEqual(len(set(shares)), len(shares))
            self.assertEqual(set(shares), {share_of(world, coarse) for coarse in views})
            for coarse in views:
                need_view(world, coarse)
                self.assertTrue(is_finer(world, view, coarse))
            for share in shares:
                self.assertTrue(is_wider(share, share_of(world, view)))
                first = next(coarse for coarse in views if share_of(world, coarse) == share)
                self.assertEqual(coarser.coarser_with(world, view, share), first)

    def test_worth_and_not_figures_put_shares_in_order(self):
        # (1, 2) is less than (2, 3), but (10, 3) is greater than (3, 1).
        world = (((1, 1), (0, 1)), ((2, 1), (5, 1)), ((1, 3), (1, 2)))
        shares = coarser.coarser_shares(world, ((0,), (1,), (2,)))
        firsts = [worth(share[0][0]) for share in shares]
        self.assertEqual(firsts, sorted(firsts))


if __name__ == "__main__":
    unittest.main()
