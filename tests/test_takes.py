"""STAKES, JOINTS, TAKES; the LEAST TAKE and its PAPER."""

import unittest
from fractions import Fraction
from itertools import permutations

from forehouse import takes
from forehouse.errors import BadPaper, BadShare, BadStakes, BadTable
from forehouse.lefts import left_table
from forehouse.rests import is_wider
from forehouse.shares import moment, total
from tests import wrongs
from tests.makers import Maker, pair_of, rest, share_of_integers, whole, worth
from tests.wrongs import ODD

ONE = share_of_integers((0, 1), (2, 1))
OTHER = share_of_integers((1, 1), (3, 1))
JOINT = ((whole(0), whole(3), whole(1)), (whole(2), whole(1), whole(1)))


def take(one, stakes, joint):
    """The TAKE by the words of the document."""
    staked = {number: worth(stake) for (number, _), stake in zip(one, stakes)}
    return sum(worth(weight) * staked[near] * (worth(far) - worth(near))
               for near, far, weight in joint)


def joint_by(one, other, rows, cols):
    """The JOINT that fills these rows with these cols in turn."""
    left = {number: worth(weight) for number, weight in one}
    free = {number: worth(weight) for number, weight in other}
    steps = {}
    for near in rows:
        for far in cols:
            part = min(left[near], free[far])
            if part > 0:
                steps[(near, far)] = part
                left[near] -= part
                free[far] -= part
    keys = sorted(steps, key=lambda key: (worth(key[0]), worth(key[1])))
    return tuple((near, far, pair_of(steps[(near, far)])) for near, far in keys)


def all_corner_joints(one, other):
    """JOINTS, one for each way to put both in a row: the LEAST TAKE is among them."""
    nears, fars = [number for number, _ in one], [number for number, _ in other]
    return {joint_by(one, other, rows, fars) for rows in permutations(nears)}


def least_by_words(one, other, stakes):
    return min(take(one, stakes, joint) for joint in all_corner_joints(one, other))


class JointTest(unittest.TestCase):

    def test_by_hand(self):
        self.assertIs(takes.is_joint(ONE, OTHER, JOINT), True)
        straight = ((whole(0), whole(1), whole(1)), (whole(2), whole(3), whole(1)))
        half = tuple((near, far, (1, 2)) for near, _ in ONE for far, _ in OTHER)
        self.assertIs(takes.is_joint(ONE, OTHER, straight), True)
        self.assertIs(takes.is_joint(ONE, OTHER, half), True)
        for thing in (JOINT[::-1], JOINT[:1], JOINT + JOINT[1:], half[:3], half[::-1],
                      ((whole(0), whole(3), whole(2)), (whole(2), whole(1), whole(1))),
                      ((whole(0), whole(2), whole(1)), (whole(2), whole(1), whole(1))),
                      half[:3] + ((whole(2), whole(3), whole(0)),), list(JOINT),
                      (list(JOINT[0]), JOINT[1]), (JOINT[0], JOINT[1] + (1,)), (JOINT[0], None),
                      (JOINT[0], (whole(2), whole(1), (2, 2))),
                      half[:1] + half[:1] + half[2:]):
            self.assertIs(takes.is_joint(ONE, OTHER, thing), False)
        for thing in ODD + wrongs.TABLES:
            self.assertIs(takes.is_joint(ONE, OTHER, thing), False)

    def test_tables_are_joints(self):
        maker = Maker(160)
        unfair = 0
        for _ in range(100):
            one, other = maker.two()
            self.assertIs(takes.is_joint(one, other, left_table(one, other)), True)
            for joint in all_corner_joints(one, other):
                self.assertIs(takes.is_joint(one, other, joint), True)
                unfair += any(near != far for near, far, _ in joint)
        self.assertGreater(unfair, 100)

    def test_unlike_totals(self):
        more = share_of_integers((0, 1), (2, 2))
        for call, rest_of in ((takes.is_joint, (None,)), (takes.take_by, (None, None)),
                              (takes.least_take, (None,)), (takes.take_paper, (None,)),
                              (takes.check_take, (None, None)), (takes.stakes_by, ())):
            for one, other in ((ONE, more), (more, ONE)):
                with self.assertRaises(BadShare) as caught:
                    call(one, other, *rest_of)
                self.assertIs(caught.exception.given, other)
            with self.assertRaises(BadShare) as caught:
                call(None, more, *rest_of)
            self.assertIsNone(caught.exception.given)


class TakeTest(unittest.TestCase):

    def test_by_hand(self):
        # 1 at 0 takes what comes, -1 at 2 takes what goes.
        stakes = (whole(1), whole(-1))
        self.assertEqual(takes.take_by(ONE, OTHER, stakes, JOINT), whole(4))
        # The greatest stake with the least: 1 less 0, and 2 less 3.
        self.assertEqual(takes.least_take(ONE, OTHER, stakes), whole(0))
        self.assertEqual(takes.take_paper(ONE, OTHER, stakes)[0],
                         ((whole(0), whole(1), whole(1)), (whole(2), whole(3), whole(1))))
        # All alike: just what the MOMENT is more.
        self.assertEqual(takes.least_take(ONE, OTHER, (whole(1),) * 2), whole(2))
        self.assertEqual(takes.least_take(ONE, OTHER, (whole(-1),) * 2), whole(-2))
        self.assertEqual(takes.least_take(ONE, OTHER, (whole(0),) * 2), whole(0))
        self.assertEqual(takes.least_take(ONE, OTHER, (whole(0), whole(5))), whole(-5))

    def test_wrong_stakes_and_joints(self):
        for thing in ODD + wrongs.SHARE_STAKES:
            for call, more in ((takes.take_by, (None,)), (takes.least_take, ()),
                               (takes.take_paper, ()), (takes.check_take, (None,))):
                with self.assertRaises(BadStakes) as caught:
                    call(ONE, OTHER, thing, *more)
                self.assertIs(caught.exception.given, thing)
        for thing in ODD + wrongs.TABLES + (JOINT[::-1],):
            with self.assertRaises(BadTable) as caught:
                takes.take_by(ONE, OTHER, (whole(1),) * 2, thing)
            self.assertIs(caught.exception.given, thing)

    def test_facts(self):
        maker = Maker(161)
        for _ in range(200):
            one = maker.share(4)
            other = maker.alike(one, 6)
            stakes = maker.fractions(len(one))
            if maker.below(3) == 0:
                stakes = stakes[:1] * len(one)
            paper = takes.take_paper(one, other, stakes)
            least = takes.least_take(one, other, stakes)
            self.assertEqual(takes.check_take(one, other, stakes, paper), least)
            self.assertEqual(worth(least), least_by_words(one, other, stakes))
            self.assertEqual(take(one, stakes, paper[0]), worth(least))
            for joint in list(all_corner_joints(one, other))[:5]:
                self.assertEqual(worth(takes.take_by(one, other, stakes, joint)),
                                 take(one, stakes, joint))
                self.assertGreaterEqual(take(one, stakes, joint), worth(least))
            self.holds(one, other, stakes, paper)

    def holds(self, one, other, stakes, paper):
        """The PAPER by the words of the document."""
        _, nears, fars = paper
        for (number, _), stake, price in zip(one, stakes, nears):
            for (far, _), more in zip(other, fars):
                self.assertLessEqual(worth(price) + worth(more),
                                     worth(stake) * (worth(far) - worth(number)))
        paid = sum(worth(weight) * worth(price)
                   for share, some in ((one, nears), (other, fars))
                   for (_, weight), price in zip(share, some))
        self.assertEqual(paid, take(one, stakes, paper[0]))

    def refuse(self, paper, part, stakes=(whole(1), whole(-1))):
        with self.assertRaises(BadPaper) as caught:
            takes.check_take(ONE, OTHER, stakes, paper)
        self.assertEqual(caught.exception.part, part)

    def test_wrong_papers(self):
        stakes = (whole(1), whole(-1))
        joint, nears, fars = takes.take_paper(ONE, OTHER, stakes)
        for thing in ODD + ((joint, nears), [joint, nears, fars], (joint, nears, fars, fars)):
            if not (isinstance(thing, tuple) and len(thing) == 3):
                self.refuse(thing, "form")
        for thing in ODD + wrongs.TABLES:
            self.refuse((thing, nears, fars), "joint")
            self.refuse((thing, None, None), "joint")
        for thing in ODD + wrongs.SHARE_STAKES:
            self.refuse((joint, thing, fars), "prices")
            self.refuse((joint, nears, thing), "prices")
        more = tuple(pair_of(worth(price) + Fraction(1, 9)) for price in nears)
        less = tuple(pair_of(worth(price) - Fraction(1, 9)) for price in nears)
        self.refuse((joint, more, fars), "bound")
        self.refuse((joint, less, fars), "sum")
        # A JOINT with more than the LEAST TAKE.
        self.refuse((JOINT, nears, fars), "sum")
        self.refuse((JOINT, more, fars), "bound")

    def test_stakes_by_hand(self):
        self.assertEqual(takes.stakes_by(ONE, OTHER), (whole(1),) * 2)
        self.assertEqual(takes.stakes_by(OTHER, ONE), (whole(-1),) * 2)
        wide = share_of_integers((0, 1), (4, 1))
        self.assertIsNone(takes.stakes_by(OTHER, wide))
        self.assertEqual(takes.stakes_by(wide, OTHER), (whole(0), whole(-1)))
        self.assertEqual(takes.least_take(wide, OTHER, (whole(0), whole(-1))), whole(1))

    def test_facts_of_stakes(self):
        maker = Maker(162)
        seen = {"wide": 0, "moment": 0, "mark": 0}
        for _ in range(300):
            one, other = maker.two(3)
            kind = maker.below(3)
            if kind == 0:
                one, other = other, one
            elif kind == 1:
                other = maker.alike(one)
            stakes = takes.stakes_by(one, other)
            if stakes is None:
                seen["wide"] += 1
                self.assertTrue(is_wider(one, other))
                for _ in range(5):
                    self.assertLessEqual(
                        worth(takes.least_take(one, other, maker.fractions(len(one)))), 0)
                continue
            self.assertFalse(is_wider(one, other))
            least = worth(takes.least_take(one, other, stakes))
            self.assertGreater(least, 0)
            gap = worth(moment(other)) - worth(moment(one))
            seen["moment" if gap else "mark"] += 1
            if gap:
                self.assertEqual(least, abs(gap))
        self.assertGreater(min(seen.values()), 40)

    def test_stakes_at_a_mark(self):
        maker = Maker(163)
        seen = 0
        for _ in range(300):
            one = maker.share(4)
            other = maker.alike(one)
            self.assertEqual(total(one), total(other))
            mark = maker.fraction()
            gap = rest(one, worth(mark)) - rest(other, worth(mark))
            if gap > 0:
                seen += 1
                stakes = tuple(whole(-1 if worth(number) > worth(mark) else 0) for number, _ in one)
                self.assertGreaterEqual(worth(takes.least_take(one, other, stakes)), gap)
        self.assertGreater(seen, 80)

    def test_six_by_six_with_60_figures(self):
        big = 10 ** 59
        one = tuple((pair_of(Fraction(big * at + 3, big - 7 * at)), pair_of(Fraction(big + at, big - 1)))
                    for at in range(6))
        weights = [Fraction(big - at, big + 3) for at in range(1, 6)]
        weights.append(sum(worth(weight) for _, weight in one) - sum(weights))
        other = tuple((pair_of(Fraction(big * at - 5, big + 9)), pair_of(weight))
                      for at, weight in enumerate(weights))
        stakes = tuple(pair_of(Fraction(big * (at * at % 5 - 2), big + at)) for at in range(6))
        paper = takes.take_paper(one, other, stakes)
        self.assertEqual(takes.check_take(one, other, stakes, paper),
                         takes.least_take(one, other, stakes))
        self.assertGreater(worth(takes.least_take(one, other, takes.stakes_by(one, other))), 0)


if __name__ == "__main__":
    unittest.main()
