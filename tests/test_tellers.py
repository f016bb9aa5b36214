"""GUESSES, what they lose, and the OWN ones."""

import unittest
from fractions import Fraction
from itertools import product

from forehouse import tellers
from forehouse.errors import BadGuesses
from forehouse.views import forecasts, share_of
from forehouse.worths import world_rest
from forehouse.rests import rest_at
from tests.makers import Maker, pair_of, whole, world_of_integers, worth
from tests.wrongs import BETS, ODD

WORLD = world_of_integers((1, 0), (2, 4), (1, 2))


def guesses_of(*numbers):
    return tuple(whole(number) for number in numbers)


def charge(world, guesses, mark):
    """The CHARGE by the words of the document."""
    out = Fraction(0)
    for (weight, number), guess in zip(world, guesses):
        number, guess = worth(number), worth(guess)
        if number >= mark and guess < mark:
            out += worth(weight) * (number - mark)
        if number < mark and guess >= mark:
            out += worth(weight) * (mark - number)
    return out


def loss(world, guesses, score):
    """The LOSS, the area reckoned by trapeziums just within the jumps of the CHARGE."""
    out = Fraction(0)
    for piece in score:
        if piece[0] == "mark":
            out += worth(piece[2]) * charge(world, guesses, worth(piece[1]))
            continue
        low, high = worth(piece[1]), worth(piece[2])
        kinks = {worth(number) for _, number in world} | {worth(guess) for guess in guesses}
        marks = sorted({low, high} | {kink for kink in kinks if low < kink < high})
        for a, b in zip(marks, marks[1:]):
            # The CHARGE is straight within, so its middle tells the area.
            out += worth(piece[3]) * (b - a) * charge(world, guesses, (a + b) / 2)
    return out


class LossTest(unittest.TestCase):

    def test_charges_by_hand(self):
        guesses = guesses_of(3, 1, 2)
        # At 2: WORTH 4 and GUESS 1, twice 2; WORTH 0 and GUESS 3, once 2; WORTH 2 right.
        self.assertEqual(tellers.charge(WORLD, guesses, (2, 1)), (6, 1))
        self.assertEqual(tellers.charge(WORLD, guesses, (1, 1)), (1, 1))
        self.assertEqual(tellers.charge(WORLD, guesses, (3, 1)), (5, 1))
        self.assertEqual(tellers.charge(WORLD, guesses, (4, 1)), (0, 1))
        self.assertEqual(tellers.charge(WORLD, guesses, (0, 1)), (0, 1))
        self.assertEqual(tellers.charge(WORLD, guesses, (-9, 1)), (0, 1))

    def test_at_the_edges_of_a_guess(self):
        world = world_of_integers((1, 0))
        # A GUESS at the MARK is not less, and a WORTH at the MARK is no less.
        self.assertEqual(tellers.charge(world, guesses_of(2), (2, 1)), (2, 1))
        self.assertEqual(tellers.charge(world, guesses_of(2), (5, 2)), (0, 1))
        self.assertEqual(tellers.charge(world, guesses_of(-2), (-2, 1)), (0, 1))
        self.assertEqual(tellers.charge(world, guesses_of(-2), (-1, 1)), (1, 1))

    def test_losses_by_hand(self):
        guesses = guesses_of(3, 1, 2)
        score = (("mark", (2, 1), (5, 1)),)
        self.assertEqual(tellers.loss(WORLD, guesses, score), (30, 1))
        # Squares: 9 once, 9 twice.
        score = (("stretch", (0, 1), (4, 1), (2, 1)),)
        self.assertEqual(tellers.loss(WORLD, guesses, score), (27, 1))
        self.assertEqual(tellers.loss(WORLD, guesses, ()), (0, 1))
        self.assertEqual(tellers.loss(WORLD, guesses_of(0, 4, 2), score), (0, 1))

    def test_against_the_words(self):
        maker = Maker(35)
        for _ in range(200):
            world, score = maker.world(), maker.score()
            guesses = maker.fractions(len(world))
            mark = maker.fraction(-5, 5)
            self.assertEqual(tellers.charge(world, guesses, mark),
                             pair_of(charge(world, guesses, worth(mark))))
            self.assertEqual(tellers.loss(world, guesses, score),
                             pair_of(loss(world, guesses, score)))

    def test_the_charge_of_a_view(self):
        maker = Maker(36)
        for _ in range(100):
            world = maker.world()
            view = maker.view(len(world))
            for mark in maker.fractions(5):
                told = tellers.charge(world, forecasts(world, view), mark)
                both = worth(world_rest(world, mark)) - worth(rest_at(share_of(world, view), mark))
                self.assertEqual(told, pair_of(both))


class OwnTest(unittest.TestCase):

    def test_by_hand(self):
        # GUESSES 1, 2, 3: means 0, 2, 4 rise; the other way about all become one.
        self.assertEqual(tellers.own_guesses(WORLD, guesses_of(1, 3, 2)), guesses_of(0, 4, 2))
        mean = (5, 2)
        self.assertEqual(tellers.own_guesses(WORLD, guesses_of(3, 1, 2)), (mean,) * 3)
        self.assertEqual(tellers.own_guesses(WORLD, guesses_of(7, 7, 7)), (mean,) * 3)
        # The first two have the mean 8/3, the last one 2.
        self.assertEqual(tellers.own_guesses(WORLD, guesses_of(7, 7, 9)), (mean,) * 3)
        self.assertEqual(tellers.own_guesses(WORLD, guesses_of(1, 9, 1)), guesses_of(1, 4, 1))
        self.assertIs(tellers.is_own(WORLD, guesses_of(1, 4, 1)), True)
        self.assertIs(tellers.is_own(WORLD, guesses_of(1, 9, 1)), False)

    def test_groups_with_the_same_mean_become_one(self):
        world = world_of_integers((1, 2), (1, 2))
        self.assertEqual(tellers.own_guesses(world, guesses_of(0, 1)), guesses_of(2, 2))

    def test_no_guesses_that_go_along_have_a_lesser_charge(self):
        maker = Maker(37)
        for _ in range(60):
            many = maker.between(1, 4)
            world = tuple((maker.weight(), maker.fraction(-2, 2, 2)) for _ in range(many))
            guesses = tuple(whole(maker.between(0, 2)) for _ in range(many))
            own = tellers.own_guesses(world, guesses)
            self.assertTrue(self.go_along(guesses, own))
            marks = [Fraction(at, 2) for at in range(-6, 7)]
            best = [charge(world, own, mark) for mark in marks]
            for others in product([whole(at) for at in (-2, -1, 0, 1, 2)], repeat=many):
                if self.go_along(guesses, others):
                    for mark, least in zip(marks, best):
                        self.assertLessEqual(least, charge(world, others, mark))
            self.assertIs(tellers.is_own(world, own), True)
            self.assertIs(tellers.is_own(world, guesses), own == guesses)

    def go_along(self, guesses, others):
        for guess, other in zip(guesses, others):
            for far, later in zip(guesses, others):
                if guess == far and other != later:
                    return False
                if worth(guess) < worth(far) and worth(other) > worth(later):
                    return False
        return True


class PartsTest(unittest.TestCase):

    def test_by_hand(self):
        score = (("stretch", (0, 1), (4, 1), (2, 1)),)
        # All at the mean 5/2: squares 25/4, twice 9/4, 1/4.
        self.assertEqual(tellers.parts(WORLD, guesses_of(3, 1, 2), score),
                         ((16, 1), (0, 1), (11, 1)))
        self.assertEqual(tellers.parts(WORLD, guesses_of(0, 4, 2), score),
                         ((0, 1), (11, 1), (11, 1)))

    def test_facts(self):
        maker = Maker(38)
        for _ in range(200):
            world, score = maker.world(), maker.score()
            guesses = maker.fractions(len(world))
            off, apart, there = [worth(part) for part in tellers.parts(world, guesses, score)]
            self.assertGreaterEqual(min(off, apart, there), 0)
            self.assertEqual(tellers.loss(world, guesses, score), pair_of(off - apart + there))
            if tellers.is_own(world, guesses):
                self.assertEqual(off, 0)


class WrongTest(unittest.TestCase):

    def test_wrong_guesses(self):
        three = world_of_integers((1, 0), (1, 1), (1, 2))
        good = guesses_of(1, 2, 3)
        self.assertIs(tellers.need_guesses(three, good), good)
        for thing in ODD + BETS:
            for call, rest in ((tellers.need_guesses, ()), (tellers.charge, (None,)),
                               (tellers.loss, (None,)), (tellers.own_guesses, ()),
                               (tellers.is_own, ()), (tellers.parts, (None,))):
                with self.assertRaises(BadGuesses) as caught:
                    call(three, thing, *rest)
                self.assertIs(caught.exception.given, thing)


if __name__ == "__main__":
    unittest.main()
