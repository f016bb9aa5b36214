"""LOOKS at one case, CASE SHARES, and the LOOKS of VIEWS."""

import unittest
from fractions import Fraction

from forehouse import looks
from forehouse.errors import BadCase, BadLook, BadPrior, BadView, BadWorld, TooMany
from forehouse.rests import is_wider
from forehouse.shares import moment, total
from forehouse.views import is_finer, share_of
from tests.makers import Maker, pair_of, whole, world_of_integers, worth
from tests.wrongs import CASES, LOOKS, ODD, PRIORS, VIEWS, WORLDS

HALF = (1, 2)
# Likely 3/4 if yes, 1/4 if no; and the other way about.
LOOK = (((1, 4), (3, 4)), ((3, 4), (1, 4)))
BLIND = (((1, 1), (1, 1)),)
SURE = (((0, 1), (1, 1)), ((1, 1), (0, 1)))


def pairs_of(look, prior):
    """For each NUMBER its WEIGHT, by the words of the document."""
    prior = worth(prior)
    weights = {}
    for yes, no in look:
        weight = prior * worth(yes) + (1 - prior) * worth(no)
        number = prior * worth(yes) / weight
        weights[number] = weights.get(number, Fraction(0)) + weight
    return weights


def case(maker):
    """A CASE SHARE of up to five NUMBERS."""
    return looks.share_by(maker.look(5), maker.prior())


class LooksTest(unittest.TestCase):

    def test_need_look(self):
        six = tuple(((1, 6), (1, 6)) for _ in range(6))
        for look in (LOOK, BLIND, SURE, six, ((whole(1), (1, 2)), (whole(0), (1, 2)))):
            self.assertIs(looks.need_look(look), look)
        calls = ((looks.need_look, 0), (looks.share_by, 1), (looks.is_plain, 0), (looks.plain, 0),
                 (looks.both_of, 1))
        for thing in ODD + LOOKS:
            for call, more in calls:
                with self.assertRaises(BadLook) as caught:
                    call(thing, *[None] * more)
                self.assertIs(caught.exception.given, thing)
            with self.assertRaises(BadLook) as caught:
                looks.both_of(LOOK, thing)
            self.assertIs(caught.exception.given, thing)

    def test_wrong_priors(self):
        for thing in ODD + PRIORS:
            with self.assertRaises(BadPrior) as caught:
                looks.share_by(LOOK, thing)
            self.assertIs(caught.exception.given, thing)

    def test_shares_by_hand(self):
        self.assertEqual(looks.share_by(LOOK, HALF), (((1, 4), HALF), ((3, 4), HALF)))
        # By 1/4: 1/16 and 9/16 are 5/8; 3/16 and 3/16 are 3/8.
        self.assertEqual(looks.share_by(LOOK, (1, 4)), (((1, 10), (5, 8)), (HALF, (3, 8))))
        self.assertEqual(looks.share_by(BLIND, (1, 3)), (((1, 3), whole(1)),))
        self.assertEqual(looks.share_by(SURE, (1, 3)), ((whole(0), (2, 3)), (whole(1), (1, 3))))
        # Two SIGNALS with the same NUMBER are one pair.
        twice = ((HALF, HALF), (HALF, HALF))
        self.assertEqual(looks.share_by(twice, (1, 3)), (((1, 3), whole(1)),))

    def test_shares_by_the_words(self):
        maker = Maker(110)
        for _ in range(200):
            look, prior = maker.look(6), maker.prior()
            share = looks.share_by(look, prior)
            weights = pairs_of(look, prior)
            self.assertEqual(share, tuple((pair_of(number), pair_of(weights[number]))
                                          for number in sorted(weights)))
            self.assertEqual(total(share), (1, 1))
            self.assertEqual(moment(share), prior)

    def test_looks_of_case_shares_by_hand(self):
        self.assertEqual(looks.look_of((((1, 10), (5, 8)), (HALF, (3, 8)))), LOOK)
        self.assertEqual(looks.look_of((((1, 3), whole(1)),)), BLIND)
        self.assertEqual(looks.look_of(((whole(0), (2, 3)), (whole(1), (1, 3)))), SURE)

    def test_what_are_no_case_shares(self):
        for thing in ODD + CASES:
            with self.assertRaises(BadCase) as caught:
                looks.look_of(thing)
            self.assertIs(caught.exception.given, thing)
        good = ((whole(0), HALF), (whole(1), HALF))
        self.assertEqual(looks.look_of(good), SURE)

    def test_there_and_back(self):
        maker = Maker(111)
        plain = 0
        for _ in range(200):
            share = case(maker)
            look = looks.look_of(share)
            looks.need_look(look)
            self.assertEqual(looks.share_by(look, moment(share)), share)
            self.assertIs(looks.is_plain(look), True)
            self.assertEqual(looks.plain(look), look)
            look = maker.look()
            again = looks.look_of(looks.share_by(look, maker.prior()))
            self.assertEqual(again == look, looks.is_plain(look))
            self.assertEqual(again, looks.plain(look))
            plain += looks.is_plain(look)
        self.assertGreater(plain, 20)

    def test_plain_by_hand(self):
        self.assertIs(looks.is_plain(LOOK), True)
        self.assertIs(looks.is_plain(LOOK[::-1]), False)
        self.assertIs(looks.is_plain(BLIND), True)
        self.assertIs(looks.is_plain(((HALF, HALF), (HALF, HALF))), False)
        self.assertEqual(looks.plain(LOOK[::-1]), LOOK)
        self.assertEqual(looks.plain(((HALF, HALF), (HALF, HALF))), BLIND)
        # Two SIGNALS that come only if yes are one.
        look = (((1, 4), (0, 1)), ((0, 1), (1, 1)), ((3, 4), (0, 1)))
        self.assertEqual(looks.plain(look), SURE)


class BothTest(unittest.TestCase):

    def test_by_hand(self):
        self.assertEqual(looks.both_of(LOOK, BLIND), LOOK)
        self.assertEqual(looks.both_of(BLIND, LOOK[::-1]), LOOK)
        self.assertEqual(looks.both_of(LOOK, SURE), SURE)
        self.assertEqual(looks.both_of(SURE, SURE), SURE)
        # Twice the same: 1/16 and 9/16, twice 3/16 and 3/16, 9/16 and 1/16.
        self.assertEqual(looks.both_of(LOOK, LOOK), (
            ((1, 16), (9, 16)), ((3, 8), (3, 8)), ((9, 16), (1, 16))))

    def test_facts(self):
        maker = Maker(112)
        for _ in range(150):
            look, other, prior = maker.look(), maker.look(), maker.prior()
            weights = {}
            for yes, no in look:
                for far_yes, far_no in other:
                    signal = (worth(yes) * worth(far_yes), worth(no) * worth(far_no))
                    if any(signal):
                        number = signal[0] / sum(signal)
                        both = weights.setdefault(number, [0, 0])
                        both[0] += signal[0]
                        both[1] += signal[1]
            if len(weights) > 6:
                with self.assertRaises(TooMany) as caught:
                    looks.both_of(look, other)
                self.assertEqual(caught.exception.most, 6)
                continue
            told = looks.both_of(look, other)
            self.assertEqual(told, tuple((pair_of(weights[number][0]), pair_of(weights[number][1]))
                                         for number in sorted(weights)))
            looks.need_look(told)
            self.assertIs(looks.is_plain(told), True)
            self.assertEqual(looks.both_of(other, look), told)
            for one in (look, other):
                self.assertTrue(is_wider(looks.share_by(one, prior), looks.share_by(told, prior)))

    def test_six_signals_and_seven(self):
        six = tuple((pair_of(Fraction(at, 21)), pair_of(Fraction(7 - at, 21))) for at in range(1, 7))
        self.assertEqual(len(looks.both_of(six, BLIND)), 6)
        self.assertEqual(len(looks.both_of(six, ((HALF, HALF), (HALF, HALF)))), 6)
        with self.assertRaises(TooMany) as caught:
            looks.both_of(six, LOOK)
        self.assertEqual(caught.exception.most, 6)
        # 36 pairs, but each of them is sure.
        sure = ((whole(0), whole(1)),) + tuple(((1, 5), whole(0)) for _ in range(5))
        self.assertEqual(looks.both_of(six, sure), SURE)


class ViewLookTest(unittest.TestCase):

    WORLD = world_of_integers((1, 0), (2, 1), (3, 0), (4, 1))

    def test_by_hand(self):
        self.assertEqual(looks.view_look(self.WORLD, ((0, 1), (2, 3))), (
            ((1, 3), (1, 4)), ((2, 3), (3, 4))))
        self.assertEqual(looks.view_look(self.WORLD, ((0, 2), (1, 3))), SURE)
        self.assertEqual(looks.view_look(self.WORLD, ((0, 1, 2, 3),)), BLIND)
        self.assertEqual(looks.view_look(self.WORLD, ((0,), (1,), (2,), (3,))), (
            (whole(0), (1, 4)), ((1, 3), whole(0)), (whole(0), (3, 4)), ((2, 3), whole(0))))
        self.assertEqual(looks.view_look(world_of_integers((5, 1), (7, 0)), ((0, 1),)), BLIND)
        # The CELLS in turn, whatever their SIGNALS.
        self.assertEqual(looks.view_look(world_of_integers((5, 1), (7, 0)), ((0,), (1,))), SURE[::-1])

    def test_wrong_ones(self):
        good = ((0, 1, 2, 3),)
        for thing in ODD + WORLDS:
            self.assertRaises(BadWorld, looks.view_look, thing, None)
        for pairs in (((1, 0), (1, 0)), ((1, 1),), ((1, 0), (1, 1), (1, 2)), ((1, 0), (1, -1)),
                      ((1, 2), (1, 1))):
            world = world_of_integers(*pairs)
            with self.assertRaises(BadCase) as caught:
                looks.view_look(world, None)
            self.assertIs(caught.exception.given, world)
        world = (((1, 1), (0, 1)), ((1, 1), (1, 2)), ((1, 1), (1, 1)))
        self.assertRaises(BadCase, looks.view_look, world, None)
        three = world_of_integers((1, 0), (1, 1), (1, 1))
        for thing in ODD + VIEWS:
            with self.assertRaises(BadView) as caught:
                looks.view_look(three, thing)
            self.assertIs(caught.exception.given, thing)
        self.assertEqual(looks.view_look(self.WORLD, good), BLIND)

    def test_six_cells_and_seven(self):
        world = tuple((whole(1), whole(at // 35)) for at in range(36))
        each = tuple((at,) for at in range(5))
        self.assertEqual(len(looks.view_look(world, each + (tuple(range(5, 36)),))), 6)
        with self.assertRaises(TooMany) as caught:
            looks.view_look(world, each + ((5,), tuple(range(6, 36))))
        self.assertEqual(caught.exception.most, 6)

    def test_facts(self):
        maker = Maker(113)
        for _ in range(150):
            many = maker.between(2, 6)
            world = ((maker.weight(), whole(0)), (maker.weight(), whole(1))) + tuple(
                (maker.weight(), whole(maker.below(2))) for _ in range(many - 2))
            view, other = maker.view(many), maker.view(many)
            look = looks.view_look(world, view)
            looks.need_look(look)
            sums = [sum(worth(weight) for weight, number in world if number == whole(side))
                    for side in (1, 0)]
            for cell, signal in zip(view, look):
                for side, part, whole_sum in zip((1, 0), signal, sums):
                    own = sum(worth(world[state][0]) for state in cell
                              if world[state][1] == whole(side))
                    self.assertEqual(worth(part), own / whole_sum)
            # By the WORLD's own PRIOR it has the SHARE of the VIEW, but for the TOTAL.
            prior = pair_of(sums[0] / sum(sums))
            share = tuple((number, pair_of(worth(weight) * sum(sums)))
                          for number, weight in looks.share_by(look, prior))
            self.assertEqual(share, share_of(world, view))
            if is_finer(world, view, other):
                far = looks.view_look(world, other)
                self.assertTrue(is_wider(looks.share_by(far, prior), looks.share_by(look, prior)))


if __name__ == "__main__":
    unittest.main()
