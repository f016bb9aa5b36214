"""TABLES, put behind one another, and their CROSSINGS."""

import unittest
from itertools import product

from forehouse import lefts, tables
from forehouse.errors import BadTable, NotWider
from forehouse.rests import check_wider
from forehouse.rewards import greatest_paper
from tests.makers import Maker, pair_of, share_of_integers, whole, worth
from tests.wrongs import ODD, TABLES


def table_of(*steps):
    return tuple((whole(near), whole(far), whole(weight)) for near, far, weight in steps)


# From 1 to 0 and 4, from 2 to 1 and 3, both between: two CROSSINGS.
CROSSED = table_of((1, 0, 3), (1, 4, 1), (2, 1, 1), (2, 3, 1))
ONE = share_of_integers((1, 4), (2, 2))
OTHER = share_of_integers((0, 3), (1, 1), (3, 1), (4, 1))


def crossings_by_words(table, back):
    out = []
    for a, b, c in product(table, repeat=3):
        near, later = worth(a[0]), worth(c[0])
        if a[0] == b[0] and worth(a[1]) < worth(c[1]) < worth(b[1]):
            if (near > later) if back else (near < later):
                out.append((a[0], c[0], a[1], c[1], b[1]))
    return tuple(sorted(out, key=lambda row: [worth(part) for part in row]))


class TablesTest(unittest.TestCase):

    def test_need_table(self):
        six = tuple(((at, 1), (at, 1), (1, 2)) for at in range(6))
        fars = (-5, -3, -1, 1, 3, 5)
        full = tuple((whole(0), whole(far), whole(1)) for far in fars)
        for table in (CROSSED, six, full, (((1, 2), (1, 2), (1, 3)),)):
            self.assertIs(tables.need_table(table), table)
        # The last of the wrong ones has seven X; six of them are a TABLE.
        self.assertEqual(len(tables.left_share(TABLES[-1][2:])), 6)
        for thing in ODD + TABLES:
            with self.assertRaises(BadTable) as caught:
                tables.need_table(thing)
            self.assertIs(caught.exception.given, thing)

    def test_36_steps_and_not_37(self):
        nears = [(at, 10) for at in (-3, -1, 1, 3, 7, 9)]
        steps = []
        for near in nears:
            # Two STEPS far out balance four small ones.
            fars = [(-6, 1), (-4, 1), (-2, 1), (2, 1), (4, 1), (6, 1)]
            middle = worth(near)
            small = sum(worth(far) - middle for far in fars[1:5])
            low, high = worth(fars[0]) - middle, worth(fars[5]) - middle
            up = (-small - 10 * low) / high
            weights = [pair_of(10)] + [(1, 1)] * 4 + [pair_of(up)]
            steps.extend((near, far, weight) for far, weight in zip(fars, weights))
        table = tuple(steps)
        self.assertEqual(len(table), 36)
        self.assertIs(tables.need_table(table), table)
        # A 7th Y, or a 7th X, is one too many.
        self.assertRaises(BadTable, tables.need_table, table + (((2, 1), (2, 1), (1, 1)),))
        least = tables.left_share(table)
        self.assertEqual(len(lefts.left_table(least, tables.right_share(table))[0]), 3)

    def test_left_and_right_share(self):
        self.assertEqual(tables.left_share(CROSSED), ONE)
        self.assertEqual(tables.right_share(CROSSED), OTHER)

    def test_goes_between(self):
        self.assertIs(tables.goes_between(ONE, OTHER, CROSSED), True)
        self.assertIs(tables.goes_between(OTHER, ONE, CROSSED), False)
        self.assertIs(tables.goes_between(ONE, ONE, CROSSED), False)
        standing = tuple((number, number, weight) for number, weight in OTHER)
        self.assertIs(tables.goes_between(ONE, OTHER, standing), False)
        standing = tuple((number, number, weight) for number, weight in ONE)
        self.assertIs(tables.goes_between(ONE, OTHER, standing), False)
        for thing in ODD + TABLES:
            self.assertIs(tables.goes_between(ONE, OTHER, thing), False)
        self.assertIs(tables.goes_between(ONE, OTHER, list(CROSSED)), False)

    def test_behind_by_hand(self):
        first = table_of((0, -1, 1), (0, 1, 1))
        later = table_of((-1, -3, 1), (-1, 1, 1))
        later = tuple((near, far, (1, 2)) for near, far, _ in later) + table_of((1, 1, 1))
        self.assertEqual(tables.behind(first, later),
                         ((whole(0), whole(-3), (1, 2)), (whole(0), whole(1), (3, 2))))

    def test_behind_needs_the_same_share(self):
        first = table_of((0, -1, 1), (0, 1, 1))
        for thing in ODD + TABLES + (first, table_of((-1, -1, 1), (1, 1, 2)), table_of((1, 1, 1))):
            with self.assertRaises(BadTable) as caught:
                tables.behind(first, thing)
            self.assertIs(caught.exception.given, thing)

    def test_behind_goes_from_the_first_to_the_last(self):
        maker = Maker(16)
        for _ in range(150):
            one, middle = maker.two(3)
            other = maker.wider(middle)
            first = maker.pick((lefts.left_table, lefts.right_table))(one, middle)
            later = maker.pick((lefts.left_table, lefts.right_table))(middle, other)
            both = tables.behind(first, later)
            self.assertIs(tables.goes_between(one, other, both), True)
            parts = {number: worth(weight) for number, weight in middle}
            weights = {}
            for near, via, weight in first:
                for start, far, onward in later:
                    if start == via:
                        part = worth(weight) * worth(onward) / parts[via]
                        weights[(near, far)] = weights.get((near, far), 0) + part
            self.assertEqual({(near, far): worth(weight) for near, far, weight in both}, weights)
            standing = tuple((number, number, weight) for number, weight in middle)
            self.assertEqual(tables.behind(first, standing), first)
            self.assertEqual(tables.behind(standing, later), later)


class CrossingsTest(unittest.TestCase):

    def test_by_hand(self):
        a = [whole(at) for at in range(5)]
        self.assertEqual(lefts.crossings(CROSSED),
                         ((a[1], a[2], a[0], a[1], a[4]), (a[1], a[2], a[0], a[3], a[4])))
        self.assertEqual(lefts.crossings_back(CROSSED), ())
        turned = table_of((1, 0, 1), (1, 2, 1), (2, 1, 2), (2, 4, 1))
        self.assertEqual(lefts.crossings(turned), ((a[1], a[2], a[0], a[1], a[2]),))
        self.assertEqual(lefts.crossings_back(turned), ((a[2], a[1], a[1], a[2], a[4]),))

    def test_against_the_words(self):
        maker = Maker(17)
        for _ in range(120):
            one, other = maker.two(3)
            table = greatest_paper(one, other, maker.reward(one, other))[0]
            self.assertEqual(lefts.crossings(table), crossings_by_words(table, False))
            self.assertEqual(lefts.crossings_back(table), crossings_by_words(table, True))

    def test_left_and_right_tables_by_hand(self):
        # The 4 at 1 go to all from the second third of 0 on up to 3, 2 to the rest.
        self.assertEqual(lefts.left_table(ONE, OTHER), table_of(
            (1, 0, 2), (1, 1, 1), (1, 3, 1), (2, 0, 1), (2, 4, 1)))
        one = share_of_integers((-1, 1), (1, 1))
        other = (((-2, 1), (3, 4)), ((0, 1), (1, 2)), ((2, 1), (3, 4)))
        self.assertEqual(lefts.left_table(one, other), (
            ((-1, 1), (-2, 1), (1, 2)), ((-1, 1), (0, 1), (1, 2)),
            ((1, 1), (-2, 1), (1, 4)), ((1, 1), (2, 1), (3, 4))))
        self.assertEqual(lefts.right_table(one, other), (
            ((-1, 1), (-2, 1), (3, 4)), ((-1, 1), (2, 1), (1, 4)),
            ((1, 1), (0, 1), (1, 2)), ((1, 1), (2, 1), (1, 2))))

    def test_just_one_has_no_crossing(self):
        maker = Maker(18)
        for _ in range(250):
            one, other = maker.two()
            left, right = lefts.left_table(one, other), lefts.right_table(one, other)
            for table in (left, right):
                self.assertTrue(tables.goes_between(one, other, table))
            self.assertEqual(lefts.crossings(left), ())
            self.assertEqual(lefts.crossings_back(right), ())
            table = greatest_paper(one, other, maker.reward(one, other))[0]
            self.assertEqual(lefts.crossings(table) == (), table == left)
            self.assertEqual(lefts.crossings_back(table) == (), table == right)

    def test_a_share_and_itself(self):
        standing = tuple((number, number, weight) for number, weight in OTHER)
        self.assertEqual(lefts.left_table(OTHER, OTHER), standing)
        self.assertEqual(lefts.right_table(OTHER, OTHER), standing)
        single = share_of_integers((3, 2))
        self.assertEqual(lefts.left_table(single, single), table_of((3, 3, 2)))

    def test_not_wider(self):
        maker = Maker(19)
        for _ in range(200):
            one, other = maker.share(), maker.share()
            if maker.below(2):
                other, one = maker.two()
            if one == other:
                continue
            for call in (lefts.left_table, lefts.right_table):
                with self.assertRaises(NotWider) as caught:
                    call(one, other)
                paper = caught.exception.paper
                self.assertIn(paper[0], ("total", "moment", "mark"))
                self.assertEqual(check_wider(one, other, paper), paper[0])


if __name__ == "__main__":
    unittest.main()
