"""REWARDS, and the LEAST and GREATEST VALUES of them."""

import unittest
from fractions import Fraction

from forehouse import lefts, rewards
from forehouse.errors import BadPaper, BadReward, BadTable, NotWider
from forehouse.rests import check_wider
from forehouse.tables import goes_between
from tests.makers import Maker, share_of_integers, whole, worth
from tests.wrongs import ODD, TABLES

# Two NUMBERS go to three: the TABLES between them have one degree of freedom.
ONE = share_of_integers((-1, 4), (1, 4))
OTHER = share_of_integers((-2, 3), (0, 2), (2, 3))
NOUGHT = ((0, 0, 0), (0, 0, 0))


def table_of(*steps):
    return tuple((whole(near), whole(far), whole(weight)) for near, far, weight in steps)


LEFT = table_of((-1, -2, 2), (-1, 0, 2), (1, -2, 1), (1, 2, 3))
RIGHT = table_of((-1, -2, 3), (-1, 2, 1), (1, 0, 2), (1, 2, 2))


def value(one, other, reward, table):
    nears, fars = [pair[0] for pair in one], [pair[0] for pair in other]
    return sum((worth(weight) * reward[nears.index(near)][fars.index(far)]
                for near, far, weight in table), Fraction(0))


def does_bound(one, other, reward, paper, side):
    """Whether U, V and H are on that side of the REWARD, and worth the VALUE."""
    table, near, far, drift = paper
    for at, (number, _) in enumerate(one):
        for to, (later, _) in enumerate(other):
            asked = (worth(near[at]) + worth(far[to])
                     + worth(drift[at]) * (worth(later) - worth(number)))
            if side * (reward[at][to] - asked) < 0:
                return False
    both = sum(worth(weight) * worth(part) for (_, weight), part in zip(one, near))
    both += sum(worth(weight) * worth(part) for (_, weight), part in zip(other, far))
    return both == value(one, other, reward, table)


def bend_by_words(one, other, reward):
    down = up = True
    for at in range(len(one) - 1):
        rises = [reward[at + 1][to] - reward[at][to] for to in range(len(other))]
        numbers = [worth(pair[0]) for pair in other]
        for to in range(len(other) - 2):
            early = (rises[to + 1] - rises[to]) / (numbers[to + 1] - numbers[to])
            late = (rises[to + 2] - rises[to + 1]) / (numbers[to + 2] - numbers[to + 1])
            down, up = down and late <= early, up and late >= early
    return "straight" if down and up else "down" if down else "up" if up else None


class ValuesTest(unittest.TestCase):

    def test_left_and_right(self):
        self.assertEqual(lefts.left_table(ONE, OTHER), LEFT)
        self.assertEqual(lefts.right_table(ONE, OTHER), RIGHT)

    def test_by_hand(self):
        # What goes from -1 to 0 is from 0 (RIGHT) to 2 (LEFT).
        reward = ((0, 1, 0), (0, 0, 0))
        self.assertEqual(rewards.value_of(ONE, OTHER, reward, LEFT), (2, 1))
        self.assertEqual(rewards.value_of(ONE, OTHER, reward, RIGHT), (0, 1))
        self.assertEqual(rewards.least_value(ONE, OTHER, reward), (0, 1))
        self.assertEqual(rewards.greatest_value(ONE, OTHER, reward), (2, 1))
        most = ((0, 1000, 0), (0, -1000, 0))
        self.assertEqual(rewards.least_value(ONE, OTHER, most), (-2000, 1))
        self.assertEqual(rewards.greatest_value(ONE, OTHER, most), (2000, 1))
        self.assertEqual(rewards.least_paper(ONE, OTHER, most)[0], RIGHT)
        self.assertEqual(rewards.greatest_paper(ONE, OTHER, most)[0], LEFT)

    def test_papers_by_hand(self):
        reward = ((0, 1, 0), (0, 0, 0))
        paper = (RIGHT, ((0, 1), (0, 1)), ((0, 1),) * 3, ((0, 1), (0, 1)))
        self.assertEqual(rewards.check_least(ONE, OTHER, reward, paper), (0, 1))
        # One for each STEP to 0, none elsewhere: worth 2.
        paper = (LEFT, ((0, 1), (0, 1)), ((0, 1), (1, 1), (0, 1)), ((0, 1), (0, 1)))
        self.assertEqual(rewards.check_greatest(ONE, OTHER, reward, paper), (2, 1))

    def test_papers_hold_and_bound(self):
        maker = Maker(20)
        for _ in range(150):
            one, other = maker.two(4)
            reward = maker.reward(one, other)
            least = rewards.least_paper(one, other, reward)
            most = rewards.greatest_paper(one, other, reward)
            self.assertTrue(does_bound(one, other, reward, least, 1))
            self.assertTrue(does_bound(one, other, reward, most, -1))
            self.assertTrue(goes_between(one, other, least[0]))
            self.assertTrue(goes_between(one, other, most[0]))
            low = rewards.check_least(one, other, reward, least)
            high = rewards.check_greatest(one, other, reward, most)
            self.assertEqual(worth(low), value(one, other, reward, least[0]))
            self.assertEqual(rewards.least_value(one, other, reward), low)
            self.assertEqual(rewards.greatest_value(one, other, reward), high)
            for table in (lefts.left_table(one, other), lefts.right_table(one, other)):
                told = rewards.value_of(one, other, reward, table)
                self.assertEqual(worth(told), value(one, other, reward, table))
                self.assertTrue(worth(low) <= worth(told) <= worth(high))

    def test_six_numbers_on_each_side(self):
        one = tuple((whole(at), (1, 3)) for at in (-3, -2, -1, 1, 2, 3))
        other = tuple((whole(at), (1, 3)) for at in (-30, -20, -10, 10, 20, 30))
        maker = Maker(21)
        for _ in range(5):
            reward = tuple(tuple(maker.between(-1000, 1000) for _ in other) for _ in one)
            least = rewards.least_paper(one, other, reward)
            self.assertTrue(does_bound(one, other, reward, least, 1))
            rewards.check_least(one, other, reward, least)
            most = rewards.greatest_paper(one, other, reward)
            rewards.check_greatest(one, other, reward, most)
            self.assertTrue(does_bound(one, other, reward, most, -1))

    def test_a_share_and_itself(self):
        reward = ((1, 2, 3), (4, 5, 6), (7, 8, 9))
        self.assertEqual(rewards.least_value(OTHER, OTHER, reward), (3 + 10 + 27, 1))
        self.assertEqual(rewards.greatest_value(OTHER, OTHER, reward), (40, 1))
        single = share_of_integers((5, 2))
        paper = rewards.least_paper(single, single, ((-1000,),))
        self.assertEqual(rewards.check_least(single, single, ((-1000,),), paper), (-2000, 1))

    def test_tables_of_other_shares_are_refused(self):
        for thing in ODD + TABLES + (table_of((0, 0, 1)), LEFT[::-1], LEFT[:-1]):
            with self.assertRaises(BadTable) as caught:
                rewards.value_of(ONE, OTHER, NOUGHT, thing)
            self.assertIs(caught.exception.given, thing)


class BendTest(unittest.TestCase):

    def test_by_hand(self):
        self.assertEqual(rewards.bend_of(ONE, OTHER, NOUGHT), "straight")
        self.assertEqual(rewards.bend_of(ONE, OTHER, ((0, 0, 0), (0, 1, 0))), "down")
        self.assertEqual(rewards.bend_of(ONE, OTHER, ((0, 1, 0), (0, 0, 0))), "up")
        self.assertEqual(rewards.bend_of(ONE, OTHER, ((5, 5, 5), (1, 2, 3))), "straight")
        three = share_of_integers((0, 1), (1, 1), (2, 1))
        self.assertIsNone(rewards.bend_of(three, OTHER, ((0, 0, 0), (0, 1, 0), (0, 0, 0))))
        # By what NUMBERS grow by: 1 and then 3.
        uneven = share_of_integers((0, 1), (1, 1), (4, 1))
        self.assertEqual(rewards.bend_of(ONE, uneven, ((0, 0, 0), (0, 1, 4))), "straight")
        self.assertEqual(rewards.bend_of(ONE, uneven, ((0, 0, 0), (0, 1, 3))), "down")
        self.assertEqual(rewards.bend_of(ONE, uneven, ((0, 0, 0), (0, 1, 5))), "up")
        single = share_of_integers((7, 1))
        self.assertEqual(rewards.bend_of(single, OTHER, ((1, 9, 1),)), "straight")
        # It is asked of any two SHARES.
        self.assertEqual(rewards.bend_of(OTHER, single, ((1,), (9,), (1,))), "straight")

    def test_against_the_words_and_the_facts(self):
        maker = Maker(22)
        seen = set()
        for _ in range(250):
            one, other = maker.two(3)
            curve = [maker.between(-3, 3) for _ in other]
            reward = tuple(tuple(maker.between(-2, 2) if maker.below(9) == 0 else at * part
                                 for part in curve) for at in range(len(one)))
            bend = rewards.bend_of(one, other, reward)
            self.assertEqual(bend, bend_by_words(one, other, reward))
            seen.add(bend)
            left = rewards.value_of(one, other, reward, lefts.left_table(one, other))
            right = rewards.value_of(one, other, reward, lefts.right_table(one, other))
            least = rewards.least_value(one, other, reward)
            most = rewards.greatest_value(one, other, reward)
            if bend in ("down", "straight"):
                self.assertEqual((left, right), (least, most))
            if bend in ("up", "straight"):
                self.assertEqual((left, right), (most, least))
        self.assertEqual(seen, {"straight", "down", "up", None})


class WrongTest(unittest.TestCase):

    CALLS = (rewards.least_value, rewards.greatest_value, rewards.least_paper,
             rewards.greatest_paper, rewards.bend_of)

    def test_wrong_rewards(self):
        rows = ((0, 0, 0), (0, 0, 1001)), ((0, 0, 0), (0, -1001, 0)), ((0, 0, 0),), ((0, 0),) * 2, (
            (0, 0, 0), (0, 0, True)), [(0, 0, 0)] * 2, ([0, 0, 0], (0, 0, 0)), (), (
            (0, 0, 0, 0),) * 2, ((0, 0, 0),) * 3, ((0, 0, 0), (0, 0, (0, 1))), 5
        for call in self.CALLS:
            for thing in ODD + rows:
                with self.assertRaises(BadReward) as caught:
                    call(ONE, OTHER, thing)
                self.assertIs(caught.exception.given, thing)
        for thing in ODD:
            for call in (rewards.check_least, rewards.check_greatest):
                self.assertRaises(BadReward, call, ONE, OTHER, thing, None)
            self.assertRaises(BadReward, rewards.value_of, ONE, OTHER, thing, None)
        edge = ((1000, -1000, 1000), (-1000, 1000, 0))
        rewards.least_value(ONE, OTHER, edge)

    def test_not_wider_ahead_of_papers(self):
        nought = ((0, 0), (0, 0), (0, 0))
        for call in self.CALLS[:4]:
            with self.assertRaises(NotWider) as caught:
                call(OTHER, ONE, nought)
            paper = caught.exception.paper
            self.assertEqual(check_wider(OTHER, ONE, paper), "mark")
            self.assertRaises(BadReward, call, OTHER, ONE, NOUGHT)
        for call in (rewards.check_least, rewards.check_greatest):
            self.assertRaises(NotWider, call, OTHER, ONE, nought, None)
            self.assertRaises(BadReward, call, OTHER, ONE, NOUGHT, None)

    def refuse(self, paper, part, reward=NOUGHT):
        for call in (rewards.check_least, rewards.check_greatest):
            with self.assertRaises(BadPaper) as caught:
                call(ONE, OTHER, reward, paper)
            self.assertEqual(caught.exception.part, part)

    def test_wrong_papers(self):
        good = rewards.least_paper(ONE, OTHER, NOUGHT)
        two, three = ((0, 1),) * 2, ((0, 1),) * 3
        for thing in ODD + ((), good[:3], good + (1,), list(good)):
            self.refuse(thing, "form")
        for thing in ODD + TABLES + (LEFT[:-1], RIGHT[::-1]):
            self.refuse((thing, None, None, None), "table")
        for thing in ODD + (three, two[:1], ((0, 2), (0, 1)), (0, 0), [(0, 1), (0, 1)]):
            self.refuse((LEFT, thing, three, two), "prices")
            self.refuse((LEFT, two, three, thing), "prices")
        for thing in ODD + (two, three + two, ((0, 2),) * 3, (0, 0, 0)):
            self.refuse((LEFT, two, thing, two), "prices")

    def test_bounds_come_ahead_of_sums(self):
        two, three = ((0, 1),) * 2, ((0, 1),) * 3
        low, high = ((-1, 1),) * 2, ((1, 1),) * 2
        for call, within, beyond in ((rewards.check_least, low, high),
                                     (rewards.check_greatest, high, low)):
            self.assertEqual(call(ONE, OTHER, NOUGHT, (LEFT, two, three, two)), (0, 1))
            for prices, part in ((beyond, "bound"), (within, "sum")):
                with self.assertRaises(BadPaper) as caught:
                    call(ONE, OTHER, NOUGHT, (LEFT, prices, three, two))
                self.assertEqual(caught.exception.part, part)
            # H moves no sum, but goes beyond at some Y.
            with self.assertRaises(BadPaper) as caught:
                call(ONE, OTHER, NOUGHT, (LEFT, two, three, ((1, 9), (0, 1))))
            self.assertEqual(caught.exception.part, "bound")
        # A TABLE that is not the one with that VALUE.
        reward = ((0, 1, 0), (0, 0, 0))
        paper = (LEFT, two, three, two)
        with self.assertRaises(BadPaper) as caught:
            rewards.check_least(ONE, OTHER, reward, paper)
        self.assertEqual(caught.exception.part, "sum")


if __name__ == "__main__":
    unittest.main()
