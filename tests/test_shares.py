"""SHARES, their RESTS, and which one is WIDER."""

import unittest
from fractions import Fraction

from forehouse import rests, shares
from forehouse.errors import BadFraction, BadPaper, BadShare, TooMany
from forehouse.tables import goes_between, left_share, right_share
from tests.makers import Maker, is_wider_by_rests, pair_of, rest, share_of_integers, worth
from tests.wrongs import FRACTIONS, ODD, SHARES

NARROW = share_of_integers((1, 2), (4, 1))
WIDE = share_of_integers((0, 1), (2, 1), (4, 1))
SIX = tuple(((at, 1), (1, 2)) for at in range(6))


class SharesTest(unittest.TestCase):

    def test_need_share(self):
        for share in (NARROW, WIDE, SIX, (((-1, 2), (1, 3)),)):
            self.assertIs(shares.need_share(share), share)
        for thing in ODD + SHARES:
            with self.assertRaises(BadShare) as caught:
                shares.need_share(thing)
            self.assertIs(caught.exception.given, thing)

    def test_total_and_moment(self):
        self.assertEqual((shares.total(NARROW), shares.moment(NARROW)), ((3, 1), (6, 1)))
        self.assertEqual((shares.total(SIX), shares.moment(SIX)), ((3, 1), (15, 2)))
        self.assertEqual(shares.moment((((-1, 2), (1, 3)), ((1, 4), (2, 3)))), (0, 1))

    def test_put_together(self):
        self.assertEqual(shares.put_together(NARROW, WIDE),
                         share_of_integers((0, 1), (1, 2), (2, 1), (4, 2)))
        self.assertEqual(shares.put_together(SIX, SIX), tuple((n, (1, 1)) for n, _ in SIX))
        self.assertEqual(len(shares.put_together(SIX[:3], SIX[3:])), 6)
        with self.assertRaises(TooMany) as caught:
            shares.put_together(SIX, (((1, 2), (1, 1)),))
        self.assertEqual(caught.exception.most, 6)
        for thing in ODD + SHARES:
            with self.assertRaises(BadShare) as caught:
                shares.put_together(SIX, thing)
            self.assertIs(caught.exception.given, thing)


class RestsTest(unittest.TestCase):

    def test_by_hand(self):
        # At 1: only the pair (4, 1) is greater, by 3.
        self.assertEqual(rests.rest_at(NARROW, (1, 1)), (3, 1))
        self.assertEqual(rests.rest_at(NARROW, (0, 1)), (6, 1))
        self.assertEqual(rests.rest_at(NARROW, (4, 1)), (0, 1))
        self.assertEqual(rests.rest_at(NARROW, (1, 2)), (9, 2))
        self.assertEqual(rests.rest_at(NARROW, (-10, 1)), (36, 1))
        for thing in ODD + FRACTIONS:
            with self.assertRaises(BadFraction) as caught:
                rests.rest_at(NARROW, thing)
            self.assertIs(caught.exception.given, thing)

    def test_against_the_words(self):
        maker = Maker(13)
        for _ in range(200):
            share, mark = maker.share(6), maker.fraction(-6, 6)
            self.assertEqual(rests.rest_at(share, mark), pair_of(rest(share, worth(mark))))

    def test_wider_by_hand(self):
        self.assertIs(rests.is_wider(NARROW, WIDE), True)
        self.assertIs(rests.is_wider(WIDE, NARROW), False)
        self.assertIs(rests.is_wider(WIDE, WIDE), True)
        self.assertEqual(rests.wider_paper(NARROW, WIDE), ("table", (
            ((1, 1), (0, 1), (1, 1)), ((1, 1), (2, 1), (1, 1)), ((4, 1), (4, 1), (1, 1)))))
        self.assertEqual(rests.wider_paper(WIDE, NARROW)[0], "mark")
        self.assertEqual(rests.wider_paper(WIDE, SIX), ("moment",))
        self.assertEqual(rests.wider_paper(WIDE, SIX[:2]), ("total",))
        # Neither is WIDER than the other one.
        one = share_of_integers((0, 2), (3, 1))
        other = share_of_integers((-1, 1), (2, 2))
        self.assertFalse(rests.is_wider(one, other) or rests.is_wider(other, one))

    def test_all_papers_hold(self):
        maker = Maker(14)
        for _ in range(300):
            one, other = maker.two() if maker.below(2) else (maker.share(6), maker.share(6))
            for near, far in ((one, other), (other, one), (one, one)):
                paper = rests.wider_paper(near, far)
                self.assertEqual(rests.check_wider(near, far, paper), paper[0])
                wider = is_wider_by_rests(near, far)
                self.assertEqual(rests.is_wider(near, far), wider)
                self.assertEqual(paper[0] == "table", wider)
                if wider:
                    self.assertTrue(goes_between(near, far, paper[1]))
                    self.assertEqual(left_share(paper[1]), near)
                    self.assertEqual(right_share(paper[1]), far)

    def test_marks_that_hold(self):
        maker = Maker(15)
        for _ in range(200):
            one, other = maker.share(3), maker.share(3)
            for _ in range(5):
                mark = maker.fraction(-6, 6)
                if rest(other, worth(mark)) < rest(one, worth(mark)):
                    self.assertEqual(rests.check_wider(one, other, ("mark", mark)), "mark")
                else:
                    self.refuse(one, other, ("mark", mark), "mark")

    def test_which_word_is_told_and_which_mark(self):
        """The TOTAL ahead of the MOMENT, this ahead of the least NUMBER with a lesser REST."""
        maker = Maker(17)
        told = {}
        for _ in range(600):
            one, other = maker.two(4)[::maker.pick((1, -1))]
            kind = maker.below(5)
            if kind < 2:
                other = maker.alike(one, 5) if kind else maker.share(5)
            if kind == 2:
                # Bottoms that have nothing in common.
                other = tuple((pair_of(worth(number) * Fraction(10 ** 40, 10 ** 40 - 1)), weight)
                              for number, weight in other)
                one = tuple((pair_of(worth(number) * Fraction(10 ** 40, 10 ** 40 - 1)), weight)
                            for number, weight in one)
            totals, moments = [], []
            for share in (one, other):
                totals.append(sum(worth(weight) for _, weight in share))
                moments.append(sum(worth(number) * worth(weight) for number, weight in share))
            numbers = sorted({worth(number) for number, _ in one + other})
            lesser = [mark for mark in numbers if rest(other, mark) < rest(one, mark)]
            if totals[0] != totals[1]:
                wanted = ("total",)
            elif moments[0] != moments[1]:
                wanted = ("moment",)
            else:
                wanted = ("mark", pair_of(lesser[0])) if lesser else None
            paper = rests.wider_paper(one, other)
            told[paper[0]] = told.get(paper[0], 0) + 1
            if wanted is None:
                self.assertEqual(paper[0], "table")
            else:
                self.assertEqual(paper, wanted)
        self.assertGreater(min(told.values()), 40)
        self.assertEqual(len(told), 4)

    def refuse(self, one, other, paper, part):
        with self.assertRaises(BadPaper) as caught:
            rests.check_wider(one, other, paper)
        self.assertEqual(caught.exception.part, part)

    def test_papers_that_do_not_hold(self):
        table = rests.wider_paper(NARROW, WIDE)[1]
        self.refuse(WIDE, NARROW, ("table", table), "table")
        self.refuse(NARROW, WIDE, ("table", table[:-1]), "table")
        self.refuse(NARROW, WIDE, ("total",), "total")
        self.refuse(NARROW, WIDE, ("moment",), "moment")
        self.refuse(NARROW, WIDE, ("mark", (1, 1)), "mark")
        for thing in ODD + FRACTIONS:
            self.refuse(WIDE, NARROW, ("mark", thing), "mark")
            self.refuse(NARROW, WIDE, ("table", thing), "table")

    def test_unlike_moments_hold_whatever_the_totals(self):
        one, other = share_of_integers((1, 1)), share_of_integers((1, 2))
        self.assertEqual(rests.check_wider(one, other, ("moment",)), "moment")
        self.assertEqual(rests.check_wider(one, other, ("total",)), "total")
        nought = share_of_integers((0, 1)), share_of_integers((0, 2))
        self.refuse(*nought, ("moment",), "moment")
        # A MARK holds whatever the TOTALS are.
        self.assertEqual(rests.check_wider(other, one, ("mark", (0, 1))), "mark")

    def test_forms(self):
        for thing in ODD + ((), ("table",), ("total", 1), ("moment", ()), ("mark",), ["total"],
                            ("mark", (1, 1), (1, 1)), ("wider",), ("far", 1), "total", 3):
            self.refuse(NARROW, WIDE, thing, "form")
            self.refuse(NARROW, WIDE, (thing, (1, 1)), "form")
            if not isinstance(thing, str) or thing != "total":
                self.refuse(NARROW, WIDE, (thing,), "form")


if __name__ == "__main__":
    unittest.main()
