"""BLURS: what is HAD, its PAPER; BLURS of TABLES, of VIEWS, and back."""

import unittest
from fractions import Fraction

from forehouse import blurs, looks
from forehouse.errors import BadBlur, BadCase, BadPaper, BadView, TooMany
from forehouse.polygons import is_over
from forehouse.rests import is_wider, wider_paper
from forehouse.shares import moment
from forehouse.tables import left_share, need_table, right_share
from forehouse.views import is_finer
from tests.makers import (Maker, is_wider_by_rests, pair_of, rest, share_of_integers, whole,
                          world_of_integers, worth)
from tests.wrongs import BLURS, ODD

HALF = (1, 2)
LOOK = (((1, 4), (3, 4)), ((3, 4), (1, 4)))
BLIND = (((1, 1), (1, 1)),)
SURE = ((whole(0), whole(1)), (whole(1), whole(0)))
SAME = ((whole(1), whole(0)), (whole(0), whole(1)))


def is_blur(look, other, rows):
    """Whether a tuple of tuples of FRACTIONS is a BLUR, by the words of the document."""
    if len(rows) != len(look) or any(len(row) != len(other) for row in rows):
        return False
    parts = [[worth(part) for part in row] for row in rows]
    if any(part < 0 for row in parts for part in row) or any(sum(row) != 1 for row in parts):
        return False
    return all(sum(worth(signal[side]) * row[at] for signal, row in zip(look, parts))
               == worth(wanted[side]) for at, wanted in enumerate(other) for side in (0, 1))


def steps_by_words(look, other, blur, prior):
    """The STEPS of the TABLE of a BLUR, by the words of the document."""
    prior = worth(prior)

    def pair(signal):
        weight = prior * worth(signal[0]) + (1 - prior) * worth(signal[1])
        return prior * worth(signal[0]) / weight, weight

    steps = {}
    for signal, row in zip(look, blur):
        far, weight = pair(signal)
        for wanted, part in zip(other, row):
            if part[0]:
                place = (pair(wanted)[0], far)
                steps[place] = steps.get(place, Fraction(0)) + weight * worth(part)
    return tuple((pair_of(near), pair_of(far), pair_of(steps[(near, far)]))
                 for near, far in sorted(steps))


def two(maker):
    """A LOOK, and one that is perhaps had of it."""
    look = maker.look(6)
    return look, maker.coarse(look)[0] if maker.below(2) else maker.look(4)


class BlurTest(unittest.TestCase):

    def test_by_hand(self):
        self.assertIs(blurs.is_blur(LOOK, LOOK, SAME), True)
        self.assertIs(blurs.is_blur(LOOK, LOOK[::-1], SAME[::-1]), True)
        self.assertIs(blurs.is_blur(LOOK, LOOK[::-1], SAME), False)
        self.assertIs(blurs.is_blur(LOOK, BLIND, ((whole(1),), (whole(1),))), True)
        self.assertIs(blurs.is_blur(BLIND, LOOK, ((HALF, HALF),)), False)
        # To tell the truth three times of four.
        parts = (((3, 4), (1, 4)), ((1, 4), (3, 4)))
        self.assertIs(blurs.is_blur(SURE, LOOK[::-1], parts), False)
        self.assertIs(blurs.is_blur(SURE, LOOK, parts), True)
        self.assertIs(blurs.is_blur(LOOK, SURE, parts), False)
        # BLURS of SIGNALS that are alike need not be the same.
        halves = ((HALF, HALF), (HALF, HALF))
        self.assertIs(blurs.is_blur(halves, halves, SAME), True)
        self.assertIs(blurs.is_blur(halves, halves, (((1, 3), (2, 3)), ((2, 3), (1, 3)))), True)
        self.assertIs(blurs.is_blur(halves, halves, (((1, 3), (2, 3)), ((1, 3), (2, 3)))), False)

    def test_of_any_value(self):
        for thing in ODD + BLURS:
            self.assertIs(blurs.is_blur(SURE, LOOK, thing), False)

    def test_blurred_by_hand(self):
        self.assertEqual(blurs.blurred(LOOK, SAME), LOOK)
        self.assertEqual(blurs.blurred(LOOK, ((whole(1),), (whole(1),))), BLIND)
        self.assertEqual(blurs.blurred(SURE, (((3, 4), (1, 4)), ((1, 4), (3, 4)))), LOOK)
        self.assertEqual(blurs.blurred(BLIND, (((1, 6),) * 6,)), (((1, 6), (1, 6)),) * 6)

    def test_blurred_of_what_is_no_such_tuple(self):
        nought = ((whole(1), whole(0)),) * 2
        seven = ((((1, 7),) * 7),) * 2
        for thing in ODD + BLURS[4:] + (nought, seven, (((1, 1),), ((1, 2), (1, 2))), ((), ())):
            with self.assertRaises(BadBlur) as caught:
                blurs.blurred(LOOK, thing)
            self.assertIs(caught.exception.given, thing)
        # SIGNALS that come only if yes, or only if no, are SIGNALS.
        self.assertEqual(blurs.blurred(SURE, SAME), SURE)

    def test_blurred_against_the_words(self):
        maker = Maker(120)
        for _ in range(200):
            look = maker.look(6)
            other, rows = maker.coarse(look, 6)
            self.assertTrue(is_blur(look, other, rows))
            self.assertIs(blurs.is_blur(look, other, rows), True)
            self.assertEqual(blurs.blurred(look, rows), other)
            self.assertIs(blurs.is_had(look, other), True)
            wrong = tuple(maker.parting(len(other)) for _ in look)
            self.assertIs(blurs.is_blur(look, other, wrong), is_blur(look, other, wrong))


class HadTest(unittest.TestCase):

    def test_by_hand(self):
        for look, other, wanted in ((SURE, LOOK, True), (LOOK, SURE, False), (LOOK, BLIND, True),
                                    (BLIND, LOOK, False), (LOOK, LOOK[::-1], True),
                                    (BLIND, BLIND, True)):
            self.assertIs(blurs.is_had(look, other), wanted)
        # Neither is had of the other one.
        yes = (((1, 2), (0, 1)), ((1, 2), (1, 1)))
        no = (((0, 1), (1, 2)), ((1, 1), (1, 2)))
        self.assertIs(blurs.is_had(yes, no), False)
        self.assertIs(blurs.is_had(no, yes), False)

    def test_papers_by_hand(self):
        self.assertEqual(blurs.blur_paper(SURE, LOOK),
                         ("blur", (((3, 4), (1, 4)), ((1, 4), (3, 4)))))
        self.assertEqual(blurs.blur_paper(LOOK, BLIND), ("blur", ((whole(1),), (whole(1),))))
        word, mark = blurs.blur_paper(LOOK, SURE)
        self.assertEqual(word, "mark")
        # RESTS at 1/4: of LOOK 1/4, of SURE 3/8; at 0 and at 1 both have the same.
        for mark, holds in (((1, 4), True), (HALF, True), ((99, 100), True), (whole(0), False),
                            (whole(1), False), ((-1, 2), False)):
            if holds:
                self.assertEqual(blurs.check_blur(LOOK, SURE, ("mark", mark)), "mark")
            else:
                self.assertRaises(BadPaper, blurs.check_blur, LOOK, SURE, ("mark", mark))

    def test_facts(self):
        maker = Maker(121)
        seen = {True: 0, False: 0}
        for _ in range(300):
            look, other = two(maker)
            paper = blurs.blur_paper(look, other)
            had = paper[0] == "blur"
            seen[had] += 1
            self.assertIs(blurs.is_had(look, other), had)
            self.assertEqual(blurs.check_blur(look, other, paper), paper[0])
            if had:
                self.assertTrue(is_blur(look, other, paper[1]))
            else:
                own, far = [looks.share_by(one, HALF) for one in (look, other)]
                self.assertGreater(rest(far, worth(paper[1])), rest(own, worth(paper[1])))
            for prior in (HALF, maker.prior()):
                own, far = looks.share_by(look, prior), looks.share_by(other, prior)
                self.assertEqual(is_wider_by_rests(far, own), had)
            self.assertIs(is_over(look, other), had)
            for mark in [maker.chance() for _ in range(3)]:
                self.agree(look, other, mark, had)
            both = looks.both_of(look, BLIND)
            self.assertIs(blurs.is_had(both, look) and blurs.is_had(look, both), True)
        self.assertGreater(min(seen.values()), 60)

    def agree(self, look, other, mark, had):
        """A MARK holds only if the LOOK is not had."""
        own, far = [rest(looks.share_by(one, HALF), worth(mark)) for one in (look, other)]
        if far > own:
            self.assertIs(had, False)
            self.assertEqual(blurs.check_blur(look, other, ("mark", mark)), "mark")
        else:
            with self.assertRaises(BadPaper) as caught:
                blurs.check_blur(look, other, ("mark", mark))
            self.assertEqual(caught.exception.part, "mark")

    def test_wrong_papers(self):
        good = blurs.blur_paper(SURE, LOOK)
        for thing in ODD + (("blur",), ("mark",), ("blur", good[1], 0), list(good), ("table", ()),
                            ("mark", HALF, HALF), (good[1], "blur")):
            with self.assertRaises(BadPaper) as caught:
                blurs.check_blur(SURE, LOOK, thing)
            self.assertEqual(caught.exception.part, "form")
        for thing in ODD + BLURS:
            for word in ("blur", "mark"):
                with self.assertRaises(BadPaper) as caught:
                    blurs.check_blur(SURE, LOOK, (word, thing))
                self.assertEqual(caught.exception.part, word)

    def test_six_signals(self):
        six = tuple((pair_of(Fraction(at, 15)), pair_of(Fraction(5 - at, 15))) for at in range(6))
        self.assertEqual(blurs.check_blur(six, six[::-1], blurs.blur_paper(six, six[::-1])), "blur")
        self.assertEqual(blurs.blur_paper(six, BLIND), ("blur", ((whole(1),),) * 6))
        # SIGNALS that are alike share what comes to their NUMBER.
        split = tuple(((1, 6), (1, 6)) for _ in range(6))
        self.assertEqual(blurs.blur_paper(BLIND, split), ("blur", (((1, 6),) * 6,)))

    def test_fractions_of_60_figures(self):
        big = 10 ** 59 + 9
        look = tuple((pair_of(Fraction(big // (at + 2), 3 * big)),) * 2 for at in range(5))
        left = pair_of(1 - sum(worth(signal[0]) for signal in look))
        look = tuple(zip([s[0] for s in look] + [left], [left] + [s[0] for s in look]))
        rows = tuple(tuple(pair_of(Fraction(10 ** 58 + at * to, 6 * 10 ** 58 + 15 * at))
                           for to in range(6)) for at in range(6))
        other = blurs.blurred(look, rows)
        paper = blurs.blur_paper(look, other)
        self.assertEqual(blurs.check_blur(look, other, paper), "blur")
        back = blurs.blur_paper(other, look)
        self.assertEqual(blurs.check_blur(other, look, back), "mark")


class TableTest(unittest.TestCase):

    def test_by_hand(self):
        table = ((HALF, (1, 4), HALF), (HALF, (3, 4), HALF))
        self.assertEqual(blurs.blur_by(table), ((whole(1),), (whole(1),)))
        # From 1/4 to 0 and 1, from 3/4 likewise: to tell the truth three times of four.
        table = (((1, 4), whole(0), (3, 8)), ((1, 4), whole(1), (1, 8)),
                 ((3, 4), whole(0), (1, 8)), ((3, 4), whole(1), (3, 8)))
        blur = (((3, 4), (1, 4)), ((1, 4), (3, 4)))
        self.assertEqual(blurs.blur_by(table), blur)
        self.assertEqual(blurs.table_by(SURE, LOOK, blur, HALF), table)

    def test_there_and_back(self):
        maker = Maker(122)
        plain = 0
        for _ in range(200):
            look = maker.look(5)
            other, blur = maker.coarse(look, 5)
            prior = maker.prior()
            table = blurs.table_by(look, other, blur, prior)
            self.assertEqual(table, steps_by_words(look, other, blur, prior))
            need_table(table)
            self.assertEqual(left_share(table), looks.share_by(other, prior))
            self.assertEqual(right_share(table), looks.share_by(look, prior))
            back = blurs.blur_by(table)
            near, far = looks.plain(look), looks.plain(other)
            self.assertTrue(is_blur(near, far, back))
            self.assertEqual(blurs.table_by(near, far, back, prior), table)
            self.assertEqual(moment(left_share(table)), prior)
            if looks.is_plain(look) and looks.is_plain(other):
                plain += 1
                self.assertEqual(back, blur)
        self.assertGreater(plain, 5)

    def test_of_shares_told(self):
        maker = Maker(123)
        seen = 0
        for _ in range(100):
            look, other = two(maker)
            near, far = looks.share_by(other, HALF), looks.share_by(look, HALF)
            paper = wider_paper(near, far)
            if paper[0] == "table":
                seen += 1
                blur = blurs.blur_by(paper[1])
                self.assertEqual(blurs.check_blur(looks.look_of(far), looks.look_of(near),
                                                  ("blur", blur)), "blur")
                self.assertEqual(blurs.table_by(looks.look_of(far), looks.look_of(near), blur, HALF),
                                 paper[1])
        self.assertGreater(seen, 30)

    def test_what_are_no_case_shares(self):
        one = share_of_integers((1, 2))
        step = ((whole(1), whole(1), whole(2)),)
        with self.assertRaises(BadCase) as caught:
            blurs.blur_by(step)
        self.assertEqual(caught.exception.given, one)
        # Only the RIGHT SHARE has NUMBERS beyond 1.
        table = ((HALF, (-1, 2), HALF), (HALF, (3, 2), HALF))
        with self.assertRaises(BadCase) as caught:
            blurs.blur_by(table)
        self.assertEqual(caught.exception.given, (((-1, 2), HALF), ((3, 2), HALF)))
        for number in (0, 1):
            self.assertRaises(BadCase, blurs.blur_by, ((whole(number), whole(number), whole(1)),))

    def test_wrong_blurs(self):
        for thing in ODD + BLURS + (SAME,):
            with self.assertRaises(BadBlur) as caught:
                blurs.table_by(SURE, LOOK, thing, None)
            self.assertIs(caught.exception.given, thing)


class ViewBlurTest(unittest.TestCase):

    WORLD = world_of_integers((1, 0), (2, 1), (3, 0), (4, 1))

    def test_by_hand(self):
        fine = ((0,), (1,), (2, 3))
        rows = blurs.view_blur(self.WORLD, fine, ((0, 1), (2, 3)))
        self.assertEqual(rows, ((whole(1), whole(0)), (whole(1), whole(0)), (whole(0), whole(1))))
        self.assertEqual(blurs.view_blur(self.WORLD, fine, fine),
                         tuple(tuple(whole(int(at == to)) for to in range(3)) for at in range(3)))
        self.assertIsNone(blurs.view_blur(self.WORLD, ((0, 1), (2, 3)), fine))

    def test_errors_in_turn(self):
        good = ((0, 1), (2, 3))
        with self.assertRaises(BadCase) as caught:
            blurs.view_blur(world_of_integers((1, 0), (1, 2)), None, None)
        self.assertEqual(caught.exception.given, world_of_integers((1, 0), (1, 2)))
        self.assertRaises(BadView, blurs.view_blur, self.WORLD, None, good)
        self.assertRaises(BadView, blurs.view_blur, self.WORLD, good, None)
        world = tuple((whole(1), whole(at // 4)) for at in range(8))
        many = tuple((at,) for at in range(6)) + ((6, 7),)
        self.assertRaises(BadView, blurs.view_blur, world, many, None)
        few = ((0, 1), (2, 3, 4, 5, 6, 7))
        # Also where it is not finer.
        for view, other in ((many, few), (few, many), (many, many)):
            with self.assertRaises(TooMany) as caught:
                blurs.view_blur(world, view, other)
            self.assertEqual(caught.exception.most, 6)
        six = tuple((at,) for at in range(5)) + ((5, 6, 7),)
        self.assertEqual(len(blurs.view_blur(world, six, six)), 6)
        self.assertEqual(len(blurs.view_blur(world, six, few)), 6)
        self.assertIsNone(blurs.view_blur(world, few, six))

    def test_facts(self):
        maker = Maker(124)
        seen = 0
        for _ in range(200):
            many = maker.between(2, 6)
            world = ((maker.weight(), whole(0)), (maker.weight(), whole(1))) + tuple(
                (maker.weight(), whole(maker.below(2))) for _ in range(many - 2))
            view, other = maker.view(many), maker.view(many)
            rows = blurs.view_blur(world, view, other)
            self.assertEqual(rows is not None, is_finer(world, view, other))
            if rows is not None:
                seen += 1
                near, far = [looks.view_look(world, one) for one in (view, other)]
                self.assertIs(blurs.is_blur(near, far, rows), True)
                self.assertTrue(set(part for row in rows for part in row) <= {whole(0), whole(1)})
                self.assertIs(blurs.is_had(near, far), True)
        self.assertGreater(seen, 40)

    def test_both_have_each(self):
        maker = Maker(125)
        for _ in range(100):
            look, other = maker.look(3), maker.look(2)
            both = looks.both_of(look, other)
            self.assertIs(blurs.is_had(both, look), True)
            self.assertIs(blurs.is_had(both, other), True)
            prior = maker.prior()
            self.assertTrue(is_wider(looks.share_by(other, prior), looks.share_by(both, prior)))


if __name__ == "__main__":
    unittest.main()
