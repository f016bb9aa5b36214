"""FRACTIONS."""

import unittest
from fractions import Fraction

from forehouse.errors import BadFraction, BadFractions, BadNumber
from forehouse.ratios import is_less, less, need_fraction, ordered, over, plus, ratio, times
from tests.makers import Maker, pair_of, worth
from tests.wrongs import FRACTIONS, INTEGERS, ODD


class RatiosTest(unittest.TestCase):

    def test_need_fraction_gives_the_thing_itself(self):
        for thing in ((0, 1), (1, 2), (-7, 3), (10 ** 60, 10 ** 60 + 1), (5, 1)):
            self.assertIs(need_fraction(thing), thing)

    def test_need_fraction_refuses_all_else(self):
        for thing in ODD + INTEGERS + FRACTIONS:
            with self.assertRaises(BadFraction) as caught:
                need_fraction(thing)
            self.assertIs(caught.exception.given, thing)

    def test_ratio_in_least_terms(self):
        self.assertEqual(ratio(4, 6), (2, 3))
        self.assertEqual(ratio(4, -6), (-2, 3))
        self.assertEqual(ratio(-4, -6), (2, 3))
        self.assertEqual(ratio(0, -5), (0, 1))
        self.assertEqual(ratio(7, 1), (7, 1))
        self.assertEqual(ratio(-10 ** 60, 10 ** 59), (-10, 1))

    def test_ratio_refuses_what_is_no_integer(self):
        for thing in ODD + FRACTIONS:
            if isinstance(thing, int) and not isinstance(thing, bool):
                continue
            with self.assertRaises(BadNumber) as caught:
                ratio(thing, 2)
            self.assertIs(caught.exception.given, thing)
            with self.assertRaises(BadNumber) as caught:
                ratio(2, thing)
            self.assertIs(caught.exception.given, thing)

    def test_ratio_refuses_nought_below_and_the_top_first(self):
        with self.assertRaises(BadNumber) as caught:
            ratio(3, 0)
        self.assertEqual(caught.exception.given, 0)
        with self.assertRaises(BadNumber) as caught:
            ratio("a", 0)
        self.assertEqual(caught.exception.given, "a")

    def test_reckoning_by_hand(self):
        self.assertEqual(plus((1, 2), (1, 3)), (5, 6))
        self.assertEqual(plus((1, 2), (-1, 2)), (0, 1))
        self.assertEqual(less((1, 2), (1, 3)), (1, 6))
        self.assertEqual(less((1, 3), (1, 2)), (-1, 6))
        self.assertEqual(times((2, 3), (3, 4)), (1, 2))
        self.assertEqual(over((2, 3), (-4, 3)), (-1, 2))
        self.assertIs(is_less((1, 3), (1, 2)), True)
        self.assertIs(is_less((1, 2), (1, 2)), False)
        self.assertIs(is_less((-1, 2), (-1, 3)), True)

    def test_reckoning_against_pythons_own(self):
        maker = Maker(1)
        for _ in range(300):
            one, other = maker.fraction(-9, 9, 7), maker.fraction(-9, 9, 7)
            near, far = worth(one), worth(other)
            self.assertEqual(plus(one, other), pair_of(near + far))
            self.assertEqual(less(one, other), pair_of(near - far))
            self.assertEqual(times(one, other), pair_of(near * far))
            self.assertIs(is_less(one, other), near < far)
            if far:
                self.assertEqual(over(one, other), pair_of(near / far))

    def test_over_nought_is_refused(self):
        with self.assertRaises(BadFraction) as caught:
            over((1, 2), (0, 1))
        self.assertEqual(caught.exception.given, (0, 1))

    def test_the_first_wrong_argument_is_told(self):
        for call in (plus, less, times, over, is_less):
            for thing in ODD + FRACTIONS:
                for args, given in (((thing, (0, 2)), thing), (((1, 1), thing), thing)):
                    with self.assertRaises(BadFraction) as caught:
                        call(*args)
                    self.assertIs(caught.exception.given, given)

    def test_ordered(self):
        self.assertEqual(ordered(()), ())
        self.assertEqual(ordered(((1, 2),)), ((1, 2),))
        self.assertEqual(ordered(((1, 2), (1, 3), (-1, 2), (1, 2), (0, 1))),
                         ((-1, 2), (0, 1), (1, 3), (1, 2), (1, 2)))
        maker = Maker(2)
        for many in range(30):
            some = maker.fractions(many, -9, 9)
            self.assertEqual(ordered(some), tuple(sorted(some, key=worth)))

    def test_ordered_of_many_with_long_figures(self):
        some = tuple((10 ** 59 + 7919 * at % 1009, 10 ** 58 + at) for at in range(1500))
        some = tuple(ratio(*one) for one in some)
        self.assertEqual(ordered(some), tuple(sorted(some, key=worth)))

    def test_ordered_refuses_what_is_no_tuple_of_fractions(self):
        for thing in ODD + ((1, 2), ((1, 2), (2, 4)), [(1, 2)], (((1, 2),),), 5):
            with self.assertRaises(BadFractions) as caught:
                ordered(thing)
            self.assertIs(caught.exception.given, thing)

    def test_what_is_told_is_plain(self):
        class Whole(int):
            pass

        class Pair(tuple):
            pass

        one = Pair((Whole(1), Whole(2)))
        self.assertIs(need_fraction(one), one)
        for told in (plus(one, one), times(one, (1, 1)), ratio(Whole(4), Whole(2)),
                     ordered((one,))[0]):
            self.assertIs(type(told), tuple)
            self.assertTrue(all(type(part) is int for part in told))

    def test_told_figures_may_be_passed_on(self):
        long = ratio(1, 3)
        for _ in range(12):
            long = times(plus(long, (1, 7)), long)
        self.assertEqual(worth(over(long, long)), Fraction(1))


if __name__ == "__main__":
    unittest.main()
