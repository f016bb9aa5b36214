"""The least of a sum of costs under equations, reckoned exactly, and guessed."""

import unittest
from fractions import Fraction
from itertools import combinations
from math import gcd

from forehouse import tasks
from forehouse.near import guessed
from forehouse.proofs import amounts_at, prices_at, shown_least, shown_none, solved
from forehouse.simplex import begun, least_sum, lowered, seated
from tests.makers import Maker, pair_of, whole, worth


def solution(rows, bounds):
    """The one solution of equations, None if there is none or are several."""
    rows = [[Fraction(part) for part in row] + [Fraction(bound)] for row, bound in zip(rows, bounds)]
    many = len(rows[0]) - 1
    lead = 0
    for col in range(many):
        at = next((at for at in range(lead, len(rows)) if rows[at][col]), None)
        if at is None:
            return None
        rows[lead], rows[at] = rows[at], rows[lead]
        rows[lead] = [part / rows[lead][col] for part in rows[lead]]
        for other in range(len(rows)):
            if other != lead:
                factor = rows[other][col]
                rows[other] = [part - factor * by for part, by in zip(rows[other], rows[lead])]
        lead += 1
    if any(row[-1] for row in rows[lead:]):
        return None
    return [row[-1] for row in rows[:lead]]


def corners(matrix, bounds):
    """All amounts from nought on that keep the equations, and no others at the same places do."""
    many = len(matrix[0])
    for size in range(len(matrix) + 1):
        for cols in combinations(range(many), size):
            if not cols:
                if not any(bounds):
                    yield {}
                continue
            told = solution([[row[col] for col in cols] for row in matrix], bounds)
            if told is not None and min(told) >= 0:
                yield dict(zip(cols, told))


def small(maker):
    """Equations in which all amounts together are bounded, some of them superfluous."""
    many, lines = maker.between(1, 6), maker.between(0, 3)
    matrix = [[1] * many]
    for _ in range(lines):
        if maker.below(4) == 0 and len(matrix) > 1:
            matrix.append([a + 2 * b for a, b in zip(matrix[0], matrix[-1])])
        else:
            matrix.append([maker.between(-2, 2) for _ in range(many)])
    amounts = [maker.pick((0, 0, 1, 2, 3)) for _ in range(many)]
    bounds = [sum(part * amount for part, amount in zip(row, amounts)) for row in matrix]
    if maker.below(3) == 0:
        bounds[-1] += maker.between(-3, 3)
    costs = [maker.between(-9, 9) for _ in range(many)]
    return matrix, bounds, costs


def fractions_of(rows):
    return [tuple(pair_of(part) for part in row) for row in rows]


def task_of(matrix, bounds, units):
    return tasks.Task(fractions_of(matrix), [pair_of(bound) for bound in bounds], units)


def stretched(matrix, bounds, costs):
    """The same with long fractions: each equation and each amount times something."""
    units = [Fraction(3 ** (31 * col), 5 ** (21 * col)) for col in range(len(costs))]
    scales = [Fraction(7 ** (30 + at), 11 ** (25 + at)) for at in range(len(matrix))]
    rows = [[part * unit * scale for part, unit in zip(row, units)]
            for row, scale in zip(matrix, scales)]
    return rows, [bound * scale for bound, scale in zip(bounds, scales)], units


class ExactTest(unittest.TestCase):

    def test_against_all_corners(self):
        maker = Maker(120)
        seen = [0, 0]
        for _ in range(300):
            matrix, bounds, costs = small(maker)
            found = list(corners(matrix, bounds))
            task = task_of(matrix, bounds, [maker.between(1, 4) for _ in costs])
            amounts, prices = task.least(costs)
            seen[bool(found)] += 1
            self.compare(matrix, bounds, costs, amounts, prices, found)
        self.assertGreater(min(seen), 30)

    def compare(self, matrix, bounds, costs, amounts, prices, found):
        self.assertEqual(amounts is not None, bool(found))
        if not found:
            self.shows_that_none_are(matrix, bounds, prices)
            return
        least = min(sum(costs[at] * amount for at, amount in corner.items()) for corner in found)
        self.assertEqual(sum(costs[at] * worth(amounts[at]) for at in amounts), least)
        self.assertTrue(all(amount[0] > 0 for amount in amounts.values()))
        for row, bound in zip(matrix, bounds):
            self.assertEqual(sum(row[at] * worth(amounts[at]) for at in amounts), bound)
        self.assertEqual(sum(worth(price) * bound for price, bound in zip(prices, bounds)), least)
        for at, cost in enumerate(costs):
            self.assertLessEqual(
                sum(worth(price) * row[at] for price, row in zip(prices, matrix)), cost)

    def shows_that_none_are(self, matrix, bounds, prices):
        for at in range(len(matrix[0])):
            self.assertLessEqual(sum(worth(price) * row[at] for price, row in zip(prices, matrix)), 0)
        self.assertGreater(sum(worth(price) * bound for price, bound in zip(prices, bounds)), 0)

    def test_long_fractions(self):
        maker = Maker(121)
        seen = [0, 0]
        for _ in range(300):
            matrix, bounds, costs = small(maker)
            found = list(corners(matrix, bounds))
            rows, wide, units = stretched(matrix, bounds, costs)
            task = task_of(rows, wide, [1] * len(costs))
            if not tasks.are_long(task.matrix):
                continue
            # A cost must be an integer, so it is the same whatever the amount is times.
            amounts, prices = task.least(costs)
            found = [{at: amount / units[at] for at, amount in corner.items()} for corner in found]
            seen[bool(found)] += 1
            self.compare(rows, wide, costs, amounts, prices, found)
            # A guess was right.
            self.assertIsNotNone(task.proved(costs, costs))
        self.assertGreater(min(seen), 15)

    def test_one_task_after_another(self):
        maker = Maker(122)
        for _ in range(60):
            matrix, bounds, costs = small(maker)
            task = task_of(matrix, bounds, [1] * len(costs))
            first = task.least(costs)
            task.least([-cost for cost in costs])
            self.assertEqual(task.least(costs), first)

    def test_no_amounts_at_all(self):
        self.assertEqual(tasks.Task([(), ()], [(0, 1), (0, 1)], []).least([])[0], {})
        self.assertIsNone(tasks.Task([(), ()], [(0, 1), (1, 2)], []).least([])[0])

    def test_rows_without_a_common_divisor(self):
        """What stands in a Task are integers, their bounds not below nought."""
        maker = Maker(77)
        for _ in range(150):
            many = maker.between(1, 5)
            rows = [maker.fractions(many) for _ in range(3)] + [((0, 1),) * many] * 2
            bounds = list(maker.fractions(4)) + [(-3, 2)]
            units = [maker.between(1, 12) for _ in range(many)]
            task = tasks.Task(rows, bounds, units)
            self.assertGreaterEqual(min(task.bounds), 0)
            for row, bound, own, raised, factor in zip(rows, bounds, task.matrix, task.bounds,
                                                       task.factors):
                self.assertEqual([worth(factor) * worth(part) * unit for part, unit in zip(row, units)],
                                 own)
                self.assertEqual(worth(factor) * worth(bound) * task.bottom, raised)
                self.assertEqual(gcd(*own), 1 if any(own) else 0)
                self.assertEqual(factor[0] < 0, bound[0] < 0)
                if not any(own):
                    self.assertIn(factor, ((1, 1), (-1, 1)))

    def test_lacks(self):
        stand, can_be = begun([[1, 1], [1, 1]], [2, 3])
        self.assertFalse(can_be)
        amounts, prices = least_sum([[1, 1], [1, 1]], [2, 3], [0, 0])
        self.assertIsNone(amounts)
        self.shows_that_none_are([[1, 1], [1, 1]], [2, 3], prices)
        stand, can_be = begun([[1, 1], [2, 2]], [2, 4])
        self.assertTrue(can_be)
        self.assertEqual(seated(stand, 2), stand)
        self.assertEqual(lowered(stand, [5, 3, 0, 0], 2)[1][-1], -6 * stand[3])


class ProofTest(unittest.TestCase):

    def test_solved_by_hand(self):
        # 2x + y = 5, x - y = 1.
        self.assertEqual(solved([[2, 1, 5], [1, -1, 1]]), ([-6, -3], -3))
        self.assertEqual(solved([[0, 3, 6], [5, 1, 7]]), ([15, 30], 15))
        self.assertIsNone(solved([[1, 2, 3], [2, 4, 6]]))
        self.assertIsNone(solved([[0, 0, 1], [0, 1, 1]]))
        self.assertEqual(solved([]), ([], 1))

    def test_solved_against_fractions(self):
        maker = Maker(123)
        for _ in range(200):
            many = maker.between(1, 5)
            rows = [[maker.between(-9, 9) for _ in range(many + 1)] for _ in range(many)]
            wanted = solution([row[:-1] for row in rows], [row[-1] for row in rows])
            told = solved(rows)
            self.assertEqual(told is None, wanted is None)
            if told is not None:
                self.assertEqual([Fraction(top, told[1]) for top in told[0]], wanted)

    def test_only_right_heads_are_shown(self):
        maker = Maker(124)
        seen = {}
        for _ in range(400):
            matrix, bounds, costs = small(maker)
            pairs = [([-part for part in row], -bound) if bound < 0 else (row, bound)
                     for row, bound in zip(matrix, bounds)]
            matrix, bounds = [row for row, _ in pairs], [bound for _, bound in pairs]
            labels = list(range(len(costs) + len(matrix)))
            heads = []
            for _ in matrix:
                heads.append(labels.pop(maker.below(len(labels))))
            own = least_sum(matrix, bounds, costs)
            told = shown_least(matrix, bounds, costs, heads)
            if told is not None:
                self.assertEqual(*[sum(costs[at] * worth(amounts[at]) for at in amounts)
                                   for amounts in (told[0], own[0])])
                self.assertEqual(*[sum(worth(price) * bound for price, bound in zip(prices, bounds))
                                   for prices in (told[1], own[1])])
            none = shown_none(matrix, bounds, [1] * len(matrix), heads)
            if none is not None:
                self.assertIsNone(own[0])
                ExactTest().shows_that_none_are(matrix, bounds, none[1])
            key = (own[0] is None, told is None, none is None)
            seen[key] = seen.get(key, 0) + 1
        self.assertGreater(seen[(False, False, True)], 10)
        self.assertGreater(seen[(True, True, False)], 10)

    def test_heads_that_cannot_be(self):
        # Both columns are alike, so they cannot head both rows.
        self.assertIsNone(amounts_at([[1, 1], [2, 2]], [2, 4], [0, 1]))
        self.assertIsNone(prices_at([[1, 1], [2, 2]], [1, 1, 0, 0], [0, 1]))
        self.assertEqual(amounts_at([[1, 1], [2, 2]], [2, 4], [0, 3]), ({0: 2}, 1))
        self.assertIsNone(amounts_at([[1, 1], [2, 2]], [2, 5], [0, 3]))

    def test_guesses_of_too_few_bits(self):
        # Far apart in size: with few bits the lesser one is taken as nought.
        equations = [((1, 1), (1, 1)), ((1, 1), (1, 2 ** 99))]
        bounds = [(2, 1), (2 ** 99 + 1, 2 ** 99)]
        heads, can_be = guessed(equations, bounds, [1, 2], 400)
        self.assertEqual((sorted(heads), can_be), ([0, 1], True))
        task = tasks.Task(equations, bounds, [1, 1])
        self.assertEqual(task.least([1, 2])[0], {0: (1, 1), 1: (1, 1)})

    def test_where_no_guess_is_right(self):
        # Both equations are as good as alike, so one amount seems to be enough.
        tiny = 2 ** 3000
        equations = [((1, 1), (1, 1)), ((1, 1), (tiny + 1, tiny))]
        task = tasks.Task(equations, [(2, 1), (2 * tiny + 1, tiny)], [1, 1])
        self.assertIsNone(task.proved([1, 2], [1, 2]))
        amounts, prices = task.least([1, 2])
        self.assertEqual(amounts, {0: (1, 1), 1: (1, 1)})
        self.assertEqual(prices, [(1 - tiny, 1), (tiny, 1)])
        # None at all, but by a hair.
        task = tasks.Task(equations, [(2, 1), (2 * tiny - 1, tiny)], [1, 1])
        amounts, prices = task.least([1, 2])
        self.assertIsNone(amounts)
        ExactTest().shows_that_none_are(
            [[worth(part) for part in row] for row in equations],
            [Fraction(2), Fraction(2 * tiny - 1, tiny)], prices)


if __name__ == "__main__":
    unittest.main()
