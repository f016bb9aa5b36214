"""DECISIONS, their WORTHS, LINES and BENDS; CORNERS of LOOKS."""

import unittest
from fractions import Fraction

from forehouse import decisions, looks, polygons
from forehouse.blurs import is_had
from forehouse.errors import BadDecision, BadFraction, BadPaper
from forehouse.rests import rest_at
from tests.makers import Maker, pair_of, rest, whole, worth
from tests.test_blurs import BLIND, HALF, LOOK, SURE, two
from tests.wrongs import DECISIONS, FRACTIONS, ODD

# 2 if yes, or 1 if no, or 1 for sure less a bit.
DECISION = ((whole(2), whole(0)), (whole(0), whole(1)), ((3, 4), (3, 4)))


def most(decision, share):
    """The greatest a DEED brings where yes is so likely."""
    return max(worth(deed[0]) * share + worth(deed[1]) * (1 - share) for deed in decision)


def worth_by_words(look, prior, decision):
    prior = worth(prior)
    return sum(max(prior * worth(yes) * worth(deed[0]) + (1 - prior) * worth(no) * worth(deed[1])
                   for deed in decision) for yes, no in look)


class DecisionsTest(unittest.TestCase):

    def test_need_decision(self):
        deed = (whole(1), whole(-2))
        for decision in (DECISION, (deed,), (deed,) * 6, (deed, deed)):
            self.assertIs(decisions.need_decision(decision), decision)
        for thing in ODD + DECISIONS:
            for call, more in ((decisions.need_decision, ()), (decisions.line_of, ()),
                               (decisions.bends, ())):
                with self.assertRaises(BadDecision) as caught:
                    call(thing, *more)
                self.assertIs(caught.exception.given, thing)

    def test_by_hand(self):
        # If 1 no, 3/4 sure, 2 yes: 1 less X to 3/4 from 1/4 on, to 2 X from 3/8 on.
        self.assertEqual(decisions.line_of(DECISION), (whole(0), whole(1)))
        self.assertEqual(decisions.bends(DECISION), (((1, 4), whole(1)), ((3, 8), whole(2))))
        # By 1/2 LOOK has 1/4 and 3/4: with 1/4 it brings 3/4, with 3/4 it brings 3/2.
        self.assertEqual(decisions.worth_for(LOOK, HALF, DECISION), (9, 8))
        self.assertEqual(decisions.worth_for(BLIND, HALF, DECISION), whole(1))
        self.assertEqual(decisions.worth_for(SURE, HALF, DECISION), (3, 2))
        self.assertEqual(decisions.worth_for(BLIND, (1, 3), DECISION), (3, 4))

    def test_of_one_deed_and_of_deeds_alike(self):
        deed = (whole(3), whole(-1))
        for decision in ((deed,), (deed,) * 6):
            self.assertEqual(decisions.line_of(decision), deed)
            self.assertEqual(decisions.bends(decision), ())
            self.assertEqual(decisions.worth_for(LOOK, HALF, decision), whole(1))
        # The same B: the greater A is the LINE, the other one is never better.
        self.assertEqual(decisions.line_of(((whole(1), whole(0)), (whole(2), whole(0)))),
                         (whole(2), whole(0)))
        self.assertEqual(decisions.bends(((whole(1), whole(0)), (whole(2), whole(0)))), ())
        # The same A: they meet at 1 only.
        self.assertEqual(decisions.bends(((whole(1), whole(0)), (whole(1), whole(-2)))), ())

    def test_six_deeds_with_five_bends(self):
        # What the squares touch: 2 A X less A A for A of 0 to 5, sixths.
        deeds = []
        for at in range(6):
            point = Fraction(at, 5)
            deeds.append((pair_of(2 * point - point * point), pair_of(-point * point)))
        wanted = tuple((pair_of(Fraction(2 * at + 1, 10)), (2, 5)) for at in range(5))
        self.assertEqual(decisions.bends(tuple(deeds)), wanted)
        self.assertEqual(decisions.bends(tuple(deeds[::-1])), wanted)

    def test_three_deeds_that_meet(self):
        # All of them bring 1/2 at 1/2: there is one bend, up to the steepest.
        deeds = ((HALF, HALF), (whole(1), whole(0)), (whole(0), whole(1)))
        for decision in (deeds, deeds[::-1]):
            self.assertEqual(decisions.line_of(decision), (whole(0), whole(1)))
            self.assertEqual(decisions.bends(decision), ((HALF, whole(2)),))

    def test_facts(self):
        maker = Maker(130)
        for _ in range(300):
            decision = maker.decision()
            line, bends = decisions.line_of(decision), decisions.bends(decision)
            self.assertIn(line, decision)
            self.assertEqual(worth(line[1]), max(worth(deed[1]) for deed in decision))
            self.assertLessEqual(len(bends), 5)
            marks = [worth(mark) for mark, _ in bends]
            self.assertEqual(marks, sorted(set(marks)))
            self.assertTrue(all(0 < mark < 1 for mark in marks))
            self.assertTrue(all(worth(price) > 0 for _, price in bends))
            for at in [Fraction(part, 24) for part in range(25)] + marks:
                told = worth(line[0]) * at + worth(line[1]) * (1 - at)
                told += sum(worth(price) * max(at - worth(mark), 0) for mark, price in bends)
                self.assertEqual(told, most(decision, at))
            look, prior = maker.look(6), maker.prior()
            value = worth_by_words(look, prior, decision)
            self.assertEqual(decisions.worth_for(look, prior, decision), pair_of(value))
            share = looks.share_by(look, prior)
            told = worth(prior) * worth(line[0]) + (1 - worth(prior)) * worth(line[1])
            told += sum(worth(price) * rest(share, worth(mark)) for mark, price in bends)
            self.assertEqual(told, value)

    def test_of_mark(self):
        self.assertEqual(decisions.of_mark((1, 3)), (((2, 3), (-1, 3)), (whole(0), whole(0))))
        self.assertEqual(decisions.of_mark(whole(2)), ((whole(-1), whole(-2)), (whole(0), whole(0))))
        maker = Maker(131)
        for _ in range(150):
            look, prior, mark = maker.look(6), maker.prior(), maker.fraction(-2, 8, 6)
            decision = decisions.need_decision(decisions.of_mark(mark))
            self.assertEqual(decisions.worth_for(look, prior, decision),
                             rest_at(looks.share_by(look, prior), mark))
        for thing in ODD + FRACTIONS:
            with self.assertRaises(BadFraction) as caught:
                decisions.of_mark(thing)
            self.assertIs(caught.exception.given, thing)

    def test_mark_by(self):
        self.assertIsNone(decisions.mark_by(SURE, LOOK, HALF, DECISION))
        self.assertEqual(decisions.mark_by(BLIND, LOOK, HALF, DECISION), (3, 8))
        # At 1/4 both have the same.
        self.assertEqual(decisions.mark_by(LOOK, SURE, HALF, DECISION), (1, 4))
        maker = Maker(132)
        seen = 0
        for _ in range(400):
            look, other = two(maker)
            prior, decision = maker.prior(), maker.decision()
            mark = decisions.mark_by(look, other, prior, decision)
            own, far = looks.share_by(look, prior), looks.share_by(other, prior)
            marks = [place for place, _ in decisions.bends(decision)
                     if rest(far, worth(place)) > rest(own, worth(place))]
            self.assertEqual(mark, marks[0] if marks else None)
            less = worth_by_words(look, prior, decision) < worth_by_words(other, prior, decision)
            if is_had(look, other):
                self.assertIsNone(mark)
                self.assertFalse(less)
            elif less:
                seen += 1
                self.assertIsNotNone(mark)
        self.assertGreater(seen, 20)

    def test_some_decision_shows_what_is_not_had(self):
        maker = Maker(133)
        seen = 0
        for _ in range(150):
            look, other = two(maker)
            prior = maker.prior()
            numbers = [number for one in (look, other) for number, _ in looks.share_by(one, prior)]
            worse = [mark for mark in numbers
                     if worth_by_words(look, prior, decisions.of_mark(mark))
                     < worth_by_words(other, prior, decisions.of_mark(mark))]
            self.assertEqual(worse == [], is_had(look, other))
            seen += worse != []
        self.assertGreater(seen, 30)

    def test_fractions_of_60_figures(self):
        big = 10 ** 59
        decision = tuple((pair_of(Fraction(big + 7 * at, big - 9 * at * at - 1)),
                          pair_of(Fraction(big - 11 * at * at, big + 5))) for at in range(6))
        prior = pair_of(Fraction(big // 3, big + 1))
        line, bends = decisions.line_of(decision), decisions.bends(decision)
        value = decisions.worth_for(LOOK, prior, decision)
        told = worth(prior) * worth(line[0]) + (1 - worth(prior)) * worth(line[1])
        share = looks.share_by(LOOK, prior)
        told += sum(worth(price) * rest(share, worth(mark)) for mark, price in bends)
        self.assertEqual(told, worth(value))


def line_by_words(look, at):
    """The LINE AT a place, reckoned between all CORNERS."""
    points = [(worth(across), worth(up)) for across, up in polygons.corners(look)]
    found = [up for across, up in points if across == at]
    for (near, low), (far, high) in zip(points, points[1:]):
        if near < at < far:
            found.append(low + (high - low) * (at - near) / (far - near))
    return max(found)


class PolygonsTest(unittest.TestCase):

    def test_corners_by_hand(self):
        nought, one = (whole(0), whole(0)), (whole(1), whole(1))
        self.assertEqual(polygons.corners(LOOK), (nought, ((1, 4), (3, 4)), one))
        self.assertEqual(polygons.corners(LOOK[::-1]), polygons.corners(LOOK))
        self.assertEqual(polygons.corners(BLIND), (nought, one))
        self.assertEqual(polygons.corners(SURE), (nought, (whole(0), whole(1)), one))
        # Two SIGNALS with the same NUMBER are one.
        self.assertEqual(polygons.corners((((1, 3), (1, 3)), ((2, 3), (2, 3)))), (nought, one))
        six = tuple((pair_of(Fraction(at, 15)), pair_of(Fraction(5 - at, 15))) for at in range(6))
        self.assertEqual(len(polygons.corners(six)), 7)

    def test_line_by_hand(self):
        for at, up in (((0, 1), (0, 1)), ((1, 8), (3, 8)), ((1, 4), (3, 4)), ((5, 8), (7, 8)),
                       ((1, 1), (1, 1))):
            self.assertEqual(polygons.line_at(LOOK, at), up)
            self.assertEqual(polygons.line_at(BLIND, at), at)
            # Of all points above 0 the greatest.
            self.assertEqual(polygons.line_at(SURE, at), whole(1))
        # Half of what comes if yes is sure, and half of what comes if no.
        look = ((HALF, whole(0)), (HALF, HALF), (whole(0), HALF))
        self.assertEqual(polygons.line_at(look, whole(0)), HALF)
        self.assertEqual(polygons.line_at(look, (1, 4)), (3, 4))
        self.assertEqual(polygons.line_at(look, HALF), whole(1))
        self.assertEqual(polygons.line_at(look, (3, 4)), whole(1))

    def test_wrong_places(self):
        for thing in ODD + FRACTIONS + ((-1, 2), (3, 2), (-1, 10 ** 50), (10 ** 50 + 1, 10 ** 50)):
            with self.assertRaises(BadFraction) as caught:
                polygons.line_at(LOOK, thing)
            self.assertIs(caught.exception.given, thing)

    def test_papers_by_hand(self):
        self.assertEqual(polygons.over_paper(SURE, LOOK), ("over",))
        self.assertEqual(polygons.over_paper(LOOK, SURE), ("corner", 1))
        self.assertEqual(polygons.check_over(SURE, LOOK, ("over",)), "over")
        self.assertEqual(polygons.check_over(LOOK, SURE, ("corner", 1)), "corner")
        for number in (0, 2, 3, -1, -2, True, None, (1,), 10 ** 30, "1"):
            self.refuse(LOOK, SURE, ("corner", number), "corner")
        self.refuse(LOOK, SURE, ("over",), "over")
        for number in range(3):
            self.refuse(SURE, LOOK, ("corner", number), "corner")
        for thing in ODD:
            self.refuse(LOOK, SURE, ("corner", thing), "corner")
        for thing in ODD + (("over", 1), ("corner",), ("corner", 1, 1), ["over"], ["corner", 1],
                            ("over", "corner")):
            self.refuse(LOOK, SURE, thing, "form")

    def refuse(self, look, other, paper, part):
        with self.assertRaises(BadPaper) as caught:
            polygons.check_over(look, other, paper)
        self.assertEqual(caught.exception.part, part)

    def test_facts(self):
        maker = Maker(134)
        seen = {True: 0, False: 0}
        for _ in range(300):
            look, other = two(maker)
            points = polygons.corners(look)
            self.assertEqual(points[0], (whole(0), whole(0)))
            self.assertEqual(points[-1], (whole(1), whole(1)))
            numbers = {worth(yes) / (worth(yes) + worth(no)) for yes, no in look}
            self.assertEqual(len(points), len(numbers) + 1)
            for number, corner in zip(sorted(numbers)[::-1], points[1:]):
                with_it = [signal for signal in look
                           if worth(signal[0]) / (worth(signal[0]) + worth(signal[1])) >= number]
                self.assertEqual(corner, (pair_of(sum(worth(no) for _, no in with_it)),
                                          pair_of(sum(worth(yes) for yes, _ in with_it))))
            for at in (whole(0), whole(1), maker.chance(), points[1][0]):
                self.assertEqual(worth(polygons.line_at(look, at)), line_by_words(look, worth(at)))
            beyond = [number for number, (across, up) in enumerate(polygons.corners(other))
                      if worth(up) > line_by_words(look, worth(across))]
            seen[beyond == []] += 1
            self.assertIs(polygons.is_over(look, other), beyond == [])
            self.assertIs(is_had(look, other), beyond == [])
            paper = polygons.over_paper(look, other)
            self.assertEqual(polygons.check_over(look, other, paper), paper[0])
            for number in range(len(polygons.corners(other))):
                if number in beyond:
                    polygons.check_over(look, other, ("corner", number))
                else:
                    self.refuse(look, other, ("corner", number), "corner")
        self.assertGreater(min(seen.values()), 60)


if __name__ == "__main__":
    unittest.main()
