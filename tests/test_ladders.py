"""LADDERS, MOVES, and what hands earn."""

import unittest
from fractions import Fraction

from forehouse import ladders, moves
from forehouse.errors import BadBounds, BadFraction, BadLadder, BadScore
from forehouse.rests import rest_at
from forehouse.scores import are_like
from forehouse.tellers import loss
from forehouse.views import forecasts, share_of
from tests.makers import Maker, pair_of, share_of_integers, whole, worth
from tests.wrongs import FRACTIONS, LADDERS, ODD, SCORES

# 2 units at 1, 3 units at 4, half a unit at 5.
LADDER = (((1, 1), (2, 1)), ((4, 1), (3, 1)), ((5, 1), (1, 2)))


class LaddersTest(unittest.TestCase):

    def test_need_ladder(self):
        ten = tuple((whole(at), (1, 2)) for at in range(10))
        for ladder in ((), LADDER, ten):
            self.assertIs(ladders.need_ladder(ladder), ladder)

    def test_what_is_none(self):
        for thing in ODD + LADDERS:
            fits = isinstance(thing, tuple) and len(thing) <= 10
            with self.assertRaises(BadLadder) as caught:
                ladders.need_ladder(thing)
            self.assertEqual(caught.exception.number is None, not fits)
        for thing in ODD + (((4, 1), (1, 1)), ((7, 2), (1, 1)), ((6, 1), (0, 1)), ((6, 1),)):
            with self.assertRaises(BadLadder) as caught:
                ladders.need_ladder(LADDER[:2] + (thing, thing))
            self.assertEqual(caught.exception.number, 2)

    def test_scores_of_ladders(self):
        self.assertEqual(ladders.as_score(()), ())
        self.assertEqual(ladders.as_score(LADDER), (
            ("mark", (1, 1), (2, 1)), ("mark", (4, 1), (3, 1)), ("mark", (5, 1), (1, 2))))
        self.assertEqual(ladders.ladder_of(ladders.as_score(LADDER)[::-1]), LADDER)
        self.assertEqual(ladders.ladder_of(()), ())
        score = (("mark", (1, 1), (1, 1)), ("mark", (0, 1), (0, 1)), ("mark", (1, 1), (1, 1)),
                 ("stretch", (0, 1), (1, 1), (0, 1)))
        self.assertEqual(ladders.ladder_of(score), LADDER[:1])
        self.assertIsNone(ladders.ladder_of((("stretch", (0, 1), (1, 1), (1, 1)),)))
        maker = Maker(39)
        for _ in range(100):
            score = maker.score()
            ladder = ladders.ladder_of(score)
            if ladder is not None:
                self.assertTrue(are_like(score, ladders.as_score(ladder)))
        for bad in SCORES:
            self.assertRaises(BadScore, ladders.ladder_of, bad)


class MovesTest(unittest.TestCase):

    def test_by_hand(self):
        # Up from 1 to 4: only the MARK 4 is passed.
        self.assertEqual(moves.position(LADDER, (1, 1), (4, 1)), (3, 1))
        self.assertEqual(moves.paid(LADDER, (1, 1), (4, 1)), (12, 1))
        self.assertEqual(moves.earned(LADDER, (1, 1), (4, 1), (6, 1)), (6, 1))
        # Down from 4 to 1: the units of 4 are given back.
        self.assertEqual(moves.position(LADDER, (4, 1), (1, 1)), (-3, 1))
        self.assertEqual(moves.paid(LADDER, (4, 1), (1, 1)), (-12, 1))
        self.assertEqual(moves.position(LADDER, (0, 1), (9, 1)), (11, 2))
        self.assertEqual(moves.paid(LADDER, (0, 1), (9, 1)), (33, 2))
        self.assertEqual(moves.position(LADDER, (4, 1), (4, 1)), (0, 1))
        self.assertEqual(moves.paid(LADDER, (4, 1), (9, 2)), (0, 1))
        self.assertEqual(moves.earned((), (0, 1), (9, 1), (5, 1)), (0, 1))

    def test_what_is_earned_is_a_loss_less_another(self):
        maker = Maker(40)
        for _ in range(300):
            ladder = maker.ladder()
            report, middle, later, number = maker.fractions(4)
            world = (((1, 1), number),)
            score = ladders.as_score(ladder)
            gap = (worth(loss(world, (report,), score)) - worth(loss(world, (later,), score)))
            told = moves.earned(ladder, report, later, number)
            self.assertEqual(told, pair_of(gap))
            by_parts = (worth(moves.earned(ladder, report, middle, number))
                        + worth(moves.earned(ladder, middle, later, number)))
            self.assertEqual(told, pair_of(by_parts))
            got = (worth(number) * worth(moves.position(ladder, report, later))
                   - worth(moves.paid(ladder, report, later)))
            self.assertEqual(told, pair_of(got))

    def test_loss_lines_by_hand(self):
        # From 3: the units at 1 can be sold, those at 4 and 5 bought.
        told = [moves.loss_at(LADDER, (3, 1), whole(at)) for at in (-1, 0, 1, 3, 4, 5, 7)]
        self.assertEqual(told, [(4, 1), (2, 1), (0, 1), (0, 1), (0, 1), (3, 1), (10, 1)])
        # A MARK at the REPORT is one at which it buys.
        self.assertEqual(moves.loss_at(LADDER, (4, 1), (5, 1)), (0, 1))
        self.assertEqual(moves.loss_at(LADDER, (4, 1), (0, 1)), (14, 1))
        self.assertEqual(moves.loss_at((), (4, 1), (0, 1)), (0, 1))
        self.assertEqual(moves.greatest_loss(LADDER, (3, 1), (-1, 1), (5, 1)), (4, 1))
        self.assertEqual(moves.greatest_loss(LADDER, (3, 1), (0, 1), (5, 1)), (3, 1))
        self.assertEqual(moves.greatest_loss(LADDER, (3, 1), (0, 1), (0, 1)), (2, 1))
        with self.assertRaises(BadBounds) as caught:
            moves.greatest_loss(LADDER, (3, 1), (1, 1), (0, 1))
        self.assertEqual(caught.exception.given, ((1, 1), (0, 1)))

    def test_loss_lines_against_the_words(self):
        maker = Maker(41)
        for _ in range(150):
            ladder = maker.ladder()
            report, number = maker.fractions(2)
            # The most is earned by a MOVE to a MARK, to below all, or by none.
            ends = [report, (-99, 1)] + [mark for mark, _ in ladder]
            most = max(worth(moves.earned(ladder, report, end, number)) for end in ends)
            told = moves.loss_at(ladder, report, number)
            self.assertEqual(told, pair_of(most))
            low, high = sorted(maker.fractions(2), key=worth)
            greatest = worth(moves.greatest_loss(ladder, report, low, high))
            for part in range(5):
                between = worth(low) + (worth(high) - worth(low)) * part / 4
                self.assertLessEqual(
                    worth(moves.loss_at(ladder, report, pair_of(between))), greatest)


class EarnsTest(unittest.TestCase):

    def test_by_hand(self):
        share = share_of_integers((0, 1), (6, 1))
        # From 3: at 1 the MOMENT less MARK times TOTAL is 4, the REST 5; at 4 and 5 the REST.
        self.assertEqual(moves.earns(LADDER, (3, 1), share), (17, 2))
        self.assertEqual(moves.earns((), (3, 1), share), (0, 1))

    def test_a_hand_that_tells_its_forecast(self):
        maker = Maker(42)
        for _ in range(150):
            world, ladder, report = maker.world(), maker.ladder(), maker.fraction()
            view = maker.view(len(world))
            told = forecasts(world, view)
            both = sum((worth(weight) * worth(moves.earned(ladder, report, forecast, number))
                        for (weight, number), forecast in zip(world, told)), Fraction(0))
            share = share_of(world, view)
            self.assertEqual(moves.earns(ladder, report, share), pair_of(both))

    def test_wider_shares_earn_no_less(self):
        maker = Maker(43)
        for _ in range(200):
            one, other = maker.two()
            ladder, report = maker.ladder(), maker.fraction()
            near, far = moves.earns(ladder, report, one), moves.earns(ladder, report, other)
            self.assertLessEqual(worth(near), worth(far))
            self.assertIsNone(moves.mark_by(ladder, one, other))
            mark = moves.mark_by(ladder, other, one)
            if near != far:
                self.assertIsNotNone(mark)
            if mark is not None:
                single = ((mark, (1, 1)),)
                self.assertLess(worth(moves.earns(single, report, one)),
                                worth(moves.earns(single, report, other)))

    def test_marks_by_ladders(self):
        maker = Maker(44)
        for _ in range(300):
            ladder, one, other = maker.ladder(), maker.share(), maker.share()
            lesser = [mark for mark, _ in ladder
                      if worth(rest_at(other, mark)) < worth(rest_at(one, mark))]
            self.assertEqual(moves.mark_by(ladder, one, other), lesser[0] if lesser else None)


class WrongTest(unittest.TestCase):

    def test_ladders_come_first(self):
        for bad in LADDERS:
            for call, many in ((moves.position, 2), (moves.paid, 2), (moves.earned, 3),
                               (moves.loss_at, 2), (moves.greatest_loss, 3), (moves.earns, 2),
                               (moves.mark_by, 2), (ladders.as_score, 0)):
                self.assertRaises(BadLadder, call, bad, *[None] * many)

    def test_wrong_fractions(self):
        good = (1, 1)
        for thing in ODD + FRACTIONS:
            for call, many in ((moves.position, 2), (moves.paid, 2), (moves.earned, 3),
                               (moves.loss_at, 2), (moves.greatest_loss, 3)):
                for at in range(many):
                    args = [good] * at + [thing] + [None] * (many - at - 1)
                    with self.assertRaises(BadFraction) as caught:
                        call(LADDER, *args)
                    self.assertIs(caught.exception.given, thing)


if __name__ == "__main__":
    unittest.main()
