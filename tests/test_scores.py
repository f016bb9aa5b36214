"""SCORES, and what SHARES, WORLDS and TABLES are worth by them."""

import unittest
from fractions import Fraction

from forehouse import scores, worths
from forehouse.errors import BadBounds, BadFraction, BadScore, BadShare, BadWorld
from forehouse.lefts import left_table, right_table
from forehouse.rests import is_wider, rest_at
from forehouse.tellers import loss
from forehouse.views import forecasts, share_of
from tests.makers import Maker, pair_of, rest, share_of_integers, whole, world_of_integers, worth
from tests.wrongs import FRACTIONS, ODD, SCORES, SHARES, WORLDS

MARK = ("mark", (1, 1), (2, 1))
STRETCH = ("stretch", (0, 1), (2, 1), (3, 1))


def area(line, low, high, kinks):
    """The area below what is straight between kinks."""
    marks = [low] + sorted(kink for kink in kinks if low < kink < high) + [high]
    return sum(((line(a) + line(b)) * (b - a) / 2 for a, b in zip(marks, marks[1:])), Fraction(0))


def mixed(score, line, kinks):
    """What is told at each MARK, mixed by a SCORE, by the words of the document."""
    out = Fraction(0)
    for piece in score:
        if piece[0] == "mark":
            out += worth(piece[2]) * line(worth(piece[1]))
        else:
            out += worth(piece[3]) * area(line, worth(piece[1]), worth(piece[2]), kinks)
    return out


class NeedScoreTest(unittest.TestCase):

    def test_what_is_one(self):
        for score in ((), (MARK,), (STRETCH, MARK, STRETCH), (MARK,) * 10,
                      (("mark", (-1, 2), (0, 1)),), (("stretch", (1, 3), (1, 2), (0, 1)),)):
            self.assertIs(scores.need_score(score), score)

    def test_what_is_none(self):
        for thing in ODD + SCORES:
            fits = isinstance(thing, tuple) and len(thing) <= 10
            with self.assertRaises(BadScore) as caught:
                scores.need_score(thing)
            if not fits:
                self.assertIsNone(caught.exception.number)
            else:
                self.assertIsInstance(caught.exception.number, int)
        for bad in SCORES[2:9]:
            with self.assertRaises(BadScore) as caught:
                scores.need_score((MARK, STRETCH) + bad + bad)
            self.assertEqual(caught.exception.number, 2)
        for thing in ODD:
            with self.assertRaises(BadScore) as caught:
                scores.need_score((MARK, thing, thing))
            self.assertEqual(caught.exception.number, 1)

    def test_squares(self):
        self.assertEqual(scores.squares((0, 1), (5, 2)), (("stretch", (0, 1), (5, 2), (2, 1)),))
        for low, high in (((1, 1), (1, 1)), ((2, 1), (1, 1))):
            with self.assertRaises(BadBounds) as caught:
                scores.squares(low, high)
            self.assertEqual(caught.exception.given, (low, high))
        for thing in ODD + FRACTIONS:
            for args in ((thing, None), ((1, 1), thing)):
                with self.assertRaises(BadFraction) as caught:
                    scores.squares(*args)
                self.assertIs(caught.exception.given, thing)

    def test_squares_are_squares(self):
        maker = Maker(26)
        for _ in range(60):
            world = maker.world()
            guesses = maker.fractions(len(world))
            told = loss(world, guesses, scores.squares((-4, 1), (4, 1)))
            wanted = sum(worth(weight) * (worth(number) - worth(guess)) ** 2
                         for (weight, number), guess in zip(world, guesses))
            self.assertEqual(told, pair_of(wanted))


class PlainScoreTest(unittest.TestCase):

    def test_by_hand(self):
        self.assertEqual(scores.plain(()), ())
        self.assertEqual(scores.plain((("mark", (0, 1), (0, 1)), MARK, MARK)),
                         (("mark", (1, 1), (4, 1)),))
        later = ("stretch", (1, 1), (3, 1), (1, 1))
        self.assertEqual(scores.plain((later, STRETCH, MARK, ("mark", (1, 2), (1, 1)))), (
            ("mark", (1, 2), (1, 1)), MARK, ("stretch", (0, 1), (1, 1), (3, 1)),
            ("stretch", (1, 1), (2, 1), (4, 1)), ("stretch", (2, 1), (3, 1), (1, 1))))

    def test_neighbours_with_one_price_are_one(self):
        halves = (("stretch", (1, 1), (2, 1), (3, 1)), ("stretch", (0, 1), (1, 1), (3, 1)))
        self.assertEqual(scores.plain(halves), (STRETCH,))
        self.assertIs(scores.are_like(halves, (STRETCH,)), True)
        self.assertIs(scores.are_like(halves, (MARK,)), False)
        # A LOW of a piece with the PRICE nought parts nothing.
        nought = ("stretch", (1, 1), (5, 1), (0, 1))
        self.assertEqual(scores.plain((nought, STRETCH)), (STRETCH,))
        self.assertEqual(scores.plain((nought,)), ())
        # Two with the same PRICE, but apart.
        apart = (("stretch", (0, 1), (1, 1), (1, 1)), ("stretch", (2, 1), (3, 1), (1, 1)))
        self.assertEqual(scores.plain(apart), apart)

    def test_it_may_have_more_than_ten_pieces(self):
        nested = tuple(("stretch", (at, 1), (20 - at, 1), (1, 1)) for at in range(10))
        self.assertEqual(len(scores.plain(nested)), 19)
        with self.assertRaises(BadScore) as caught:
            scores.plain(scores.plain(nested))
        self.assertIsNone(caught.exception.number)

    def test_alike_scores_are_worth_the_same(self):
        maker = Maker(27)
        for _ in range(150):
            score, share = maker.score(), maker.share()
            plain = scores.plain(score)
            self.assertEqual(scores.plain(plain), plain)
            self.assertTrue(scores.are_like(score, plain))
            self.assertTrue(scores.are_like(score, score[::-1]))
            self.assertEqual(worths.weighed_rest(score, share), worths.weighed_rest(plain, share))
            for bad in SCORES:
                self.assertRaises(BadScore, scores.are_like, score, bad)


class BendTest(unittest.TestCase):

    def test_by_hand(self):
        self.assertEqual(scores.bend_at((MARK,), (4, 1)), (6, 1))
        self.assertEqual(scores.bend_at((MARK,), (1, 1)), (0, 1))
        self.assertEqual(scores.bend_at((MARK,), (0, 1)), (0, 1))
        # From 0 to 2 the line N less MARK: at N 1 a triangle of 1/2, at 5 from 5 to 3.
        self.assertEqual(scores.bend_at((STRETCH,), (1, 1)), (3, 2))
        self.assertEqual(scores.bend_at((STRETCH,), (5, 1)), (24, 1))
        self.assertEqual(scores.bend_at((STRETCH,), (-1, 1)), (0, 1))
        self.assertEqual(scores.bend_at((), (5, 1)), (0, 1))

    def test_against_the_words(self):
        maker = Maker(28)
        for _ in range(150):
            score, number = maker.score(), maker.fraction(-6, 6)
            line = lambda mark: max(worth(number) - mark, Fraction(0))
            self.assertEqual(scores.bend_at(score, number),
                             pair_of(mixed(score, line, [worth(number)])))


class WorthsTest(unittest.TestCase):

    def test_by_hand(self):
        share = share_of_integers((0, 1), (2, 1))
        self.assertEqual(worths.weighed_rest((MARK,), share), (2, 1))
        self.assertEqual(worths.sees((MARK,), share), (2, 1))
        # The REST from 0 to 2 goes from 2 to 0: its area is 2.
        self.assertEqual(worths.weighed_rest((STRETCH,), share), (6, 1))
        self.assertEqual(worths.sees((STRETCH,), share), (3, 1))
        self.assertEqual(worths.sees((), share), (0, 1))
        world = world_of_integers((1, 0), (2, 3))
        self.assertEqual(worths.world_rest(world, (1, 1)), (4, 1))
        self.assertEqual(worths.weighed_world((MARK,), world), (8, 1))
        table = (((1, 1), (0, 1), (1, 1)), ((1, 1), (2, 1), (1, 1)))
        self.assertEqual(worths.step_cost((MARK,), table), (2, 1))

    def test_weighed_rests_against_the_words(self):
        maker = Maker(29)
        for _ in range(150):
            score, share, world = maker.score(), maker.share(6), maker.world()
            kinks = [worth(number) for number, _ in share]
            self.assertEqual(worths.weighed_rest(score, share),
                             pair_of(mixed(score, lambda mark: rest(share, mark), kinks)))
            pairs = tuple((number, weight) for weight, number in world)
            kinks = [worth(number) for number, _ in pairs]
            self.assertEqual(worths.weighed_world(score, world),
                             pair_of(mixed(score, lambda mark: rest(pairs, mark), kinks)))
            mark = maker.fraction()
            self.assertEqual(worths.world_rest(world, mark), pair_of(rest(pairs, worth(mark))))

    def test_the_loss_of_a_view(self):
        maker = Maker(30)
        for _ in range(150):
            world, score = maker.world(), maker.score()
            view = maker.view(len(world))
            told = loss(world, forecasts(world, view), score)
            both = (worth(worths.weighed_world(score, world))
                    - worth(worths.weighed_rest(score, share_of(world, view))))
            self.assertEqual(told, pair_of(both))

    def test_what_steps_cost(self):
        maker = Maker(31)
        for _ in range(100):
            one, other = maker.two()
            score = maker.score()
            gap = (worth(worths.weighed_rest(score, other))
                   - worth(worths.weighed_rest(score, one)))
            for table in (left_table(one, other), right_table(one, other)):
                self.assertEqual(worths.step_cost(score, table), pair_of(gap))

    def test_wider_shares_see_no_less(self):
        maker = Maker(32)
        for _ in range(200):
            one, other = maker.two()
            score = maker.score()
            self.assertLessEqual(worth(worths.sees(score, one)), worth(worths.sees(score, other)))
            self.assertGreaterEqual(worth(worths.sees(score, one)), 0)
            self.assertIsNone(worths.mark_of(score, one, other))

    def test_marks_of_scores(self):
        maker = Maker(33)
        found = 0
        for _ in range(600):
            score, one, other = maker.score(), maker.share(), maker.share()
            near, far = worths.weighed_rest(score, one), worths.weighed_rest(score, other)
            mark = worths.mark_of(score, one, other)
            self.assertEqual(mark is None, worth(far) >= worth(near))
            if mark is None:
                continue
            found += 1
            self.assertLess(worth(rest_at(other, mark)), worth(rest_at(one, mark)))
            self.assertTrue(any(piece[1] == mark if piece[0] == "mark" else
                                worth(piece[1]) <= worth(mark) <= worth(piece[2])
                                for piece in score))
        self.assertGreater(found, 50)

    def test_a_lesser_rest_is_seen(self):
        maker = Maker(34)
        for _ in range(100):
            other, one = maker.two()
            for number, _ in one:
                score = (("mark", number, (1, 1)),)
                less = worth(rest_at(other, number)) < worth(rest_at(one, number))
                seen = worth(worths.sees(score, other)) < worth(worths.sees(score, one))
                self.assertEqual(less, seen)
            self.assertEqual(is_wider(one, other), one == other)

    def test_no_mark_within_a_stretch_but_at_a_number(self):
        # Both RESTS meet at 0 and at 4; other's is less between, most at 2.
        one, other = share_of_integers((0, 1), (4, 1)), share_of_integers((2, 2))
        score = (("mark", (0, 1), (5, 1)), ("stretch", (0, 1), (4, 1), (1, 1)))
        self.assertEqual(worths.mark_of(score, one, other), (2, 1))
        self.assertIsNone(worths.mark_of(score, other, one))
        self.assertIsNone(worths.mark_of((), one, other))
        # Only within the stretch, though the RESTS are further apart beyond it.
        self.assertEqual(worths.mark_of((("stretch", (-1, 1), (1, 1), (1, 1)),), one, other),
                         (1, 1))
        self.assertEqual(worths.mark_of((("stretch", (3, 1), (5, 1), (1, 1)),), one, other),
                         (3, 1))


class OrderTest(unittest.TestCase):

    def test_the_score_comes_first(self):
        for bad in SCORES:
            for call, rest_of in ((worths.weighed_rest, (None,)), (worths.sees, (None,)),
                                  (worths.weighed_world, (None,)), (worths.step_cost, (None,)),
                                  (worths.mark_of, (None, None)), (scores.bend_at, (None,))):
                self.assertRaises(BadScore, call, bad, *rest_of)
        for bad in WORLDS:
            self.assertRaises(BadWorld, worths.weighed_world, (MARK,), bad)
            self.assertRaises(BadWorld, worths.world_rest, bad, None)
        for bad in SHARES:
            self.assertRaises(BadShare, worths.sees, (MARK,), bad)


if __name__ == "__main__":
    unittest.main()
