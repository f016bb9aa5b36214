"""The least of a sum of costs under equations, reckoned exactly, and guessed."""

import unittest
from fractions import Fraction
from itertools import combinations

from forehouse.near import guessed
from forehouse.simplex import (amounts_of, begun, can_stand, headed, lack_costs, lowered, opened,
                               prices_of)
from forehouse.tasks import Task
from tests.makers import Maker, pair_of, whole, worth


def solved(rows, bounds):
    """The one solution of equations, None if there is none or are several."""
    rows = [[Fraction(part) for part in row] + [Fraction(bound)] for row, bound in zip(rows, bounds)]
    many = len(rows[0]) - 1
    lead = 0
    for col in range(many):
        at = next((at for at in range(lead, len(rows)) if rows[at][col]), None)
        if at is None:
            return None
        rows[lead], rows[at] = rows[at], rows[lead]
        rows[lead] = [part / rows[lead][col] for part in rows[lead]]
        for other in range(len(rows)):
            if other != lead:
                factor = rows[other][col]
                rows[other] = [part - factor * by for part, by in zip(rows[other], rows[lead])]
        lead += 1
    if any(row[-1] for row in rows[lead:]):
        return None
    return [row[-1] for row in rows[:lead]]


def corners(matrix, bounds):
    """All amounts from nought on that keep the equations, and no others at the same places do."""
    many = len(matrix[0])
    for size in range(len(matrix) + 1):
        for cols in combinations(range(many), size):
            if not cols:
                if not any(bounds):
                    yield {}
                continue
            told = solved([[row[col] for col in cols] for row in matrix], bounds)
            if told is not None and min(told) >= 0:
                yield dict(zip(cols, told))


def small(maker):
    """Equations in which all amounts together are bounded, some of them superfluous."""
    many, lines = maker.between(1, 6), maker.between(0, 3)
    matrix = [[1] * many]
    for _ in range(lines):
        if maker.below(4) == 0 and len(matrix) > 1:
            matrix.append([a + 2 * b for a, b in zip(matrix[0], matrix[-1])])
        else:
            matrix.append([maker.between(-2, 2) for _ in range(many)])
    amounts = [maker.pick((0, 0, 1, 2, 3)) for _ in range(many)]
    bounds = [sum(part * amount for part, amount in zip(row, amounts)) for row in matrix]
    if maker.below(3) == 0:
        bounds[-1] += maker.between(-3, 3)
    costs = [maker.between(-9, 9) for _ in range(many)]
    return matrix, bounds, costs


def turned(matrix, bounds):
    """The same with no bound below 0."""
    pairs = [([-part for part in row], -bound) if bound < 0 else (row, bound)
             for row, bound in zip(matrix, bounds)]
    return [row for row, _ in pairs], [bound for _, bound in pairs]


def stretched(matrix, bounds, costs):
    """The same with immense integers: each row and column times something."""
    units = [3 ** (41 + 7 * col) for col in range(len(costs))]
    rows = [[part * unit * 7 ** (30 + 11 * at) for part, unit in zip(row, units)]
            for at, row in enumerate(matrix)]
    wide = [bound * 7 ** (30 + 11 * at) for at, bound in enumerate(bounds)]
    return rows, wide, [cost * unit for cost, unit in zip(costs, units)]


class ExactTest(unittest.TestCase):

    def test_against_all_corners(self):
        maker = Maker(120)
        seen = [0, 0]
        for _ in range(300):
            matrix, bounds, costs = small(maker)
            found = list(corners(matrix, bounds))
            rows = [tuple(whole(part) for part in row) for row in matrix]
            task = Task(rows, [whole(bound) for bound in bounds],
                        [maker.between(1, 4) for _ in costs])
            told = task.least(costs)
            seen[bool(found)] += 1
            self.assertEqual(told is not None, bool(found))
            self.assertEqual(task.some_amounts() is not None, bool(found))
            if not found:
                self.shows_that_none_are(matrix, bounds, task.why_not())
                continue
            amounts, prices = told
            least = min(sum(costs[at] * amount for at, amount in corner.items())
                        for corner in found)
            self.assertEqual(sum(costs[at] * worth(amounts[at]) for at in amounts), least)
            self.keeps(matrix, bounds, amounts)
            self.keeps(matrix, bounds, task.some_amounts())
            self.assertEqual(sum(worth(price) * bound for price, bound in zip(prices, bounds)), least)
            for at, cost in enumerate(costs):
                self.assertLessEqual(
                    sum(worth(price) * row[at] for price, row in zip(prices, matrix)), cost)
        self.assertGreater(min(seen), 30)

    def keeps(self, matrix, bounds, amounts):
        self.assertTrue(all(amount[0] > 0 for amount in amounts.values()))
        for row, bound in zip(matrix, bounds):
            self.assertEqual(sum(row[at] * worth(amounts[at]) for at in amounts), bound)

    def shows_that_none_are(self, matrix, bounds, prices):
        for at in range(len(matrix[0])):
            self.assertLessEqual(sum(worth(price) * row[at] for price, row in zip(prices, matrix)), 0)
        self.assertGreater(sum(worth(price) * bound for price, bound in zip(prices, bounds)), 0)

    def test_one_task_after_another(self):
        maker = Maker(121)
        for _ in range(100):
            matrix, bounds, costs = small(maker)
            rows = [tuple(whole(part) for part in row) for row in matrix]
            bounds = [whole(bound) for bound in bounds]
            task = Task(rows, bounds, [1] * len(costs))
            for _ in range(3):
                costs = [maker.between(-9, 9) for _ in costs]
                fresh = Task(rows, bounds, [1] * len(costs)).least(costs)
                told = task.least(costs)
                self.assertEqual(told is None, fresh is None)
                if told is not None:
                    self.assertEqual(*[sum(costs[at] * worth(amounts[at]) for at in amounts)
                                       for amounts, _ in (told, fresh)])

    def test_no_amounts_at_all(self):
        self.assertEqual(Task([(), ()], [(0, 1), (0, 1)], []).some_amounts(), {})
        self.assertIsNone(Task([(), ()], [(0, 1), (1, 2)], []).some_amounts())


class GuessTest(unittest.TestCase):

    def test_short_integers_need_no_guess(self):
        self.assertEqual(guessed([[1, 2 ** 63]], [1], [5, 5]), [])
        self.assertNotEqual(guessed([[1, 2 ** 64]], [1], [5, 5]), [])

    def test_any_labels_lead_to_the_same(self):
        maker = Maker(122)
        for _ in range(150):
            matrix, bounds, costs = small(maker)
            matrix, bounds = turned(matrix, bounds)
            many = len(costs)
            own = costs + [0] * len(matrix)
            told = []
            labels = sorted({maker.below(many) for _ in range(maker.below(4))})
            for some in ([], labels):
                stand, can_be = begun(matrix, bounds, some)
                least = None
                if can_be:
                    stand = lowered(stand, own, many)[0]
                    self.assertTrue(can_stand(stand))
                    amounts = amounts_of(stand, many)
                    least = sum(costs[at] * worth(amounts[at]) for at in amounts)
                    prices = prices_of(stand, own, many)
                    self.assertEqual(least, sum(worth(price) * bound
                                                for price, bound in zip(prices, bounds)))
                told.append((can_be, least))
            self.assertEqual(told[0], told[1])

    def test_guesses_lead_to_the_least_costs(self):
        maker = Maker(123)
        right = wrong = 0
        for _ in range(150):
            matrix, bounds, costs = small(maker)
            matrix, bounds = turned(matrix, bounds)
            rows, wide, dear = stretched(matrix, bounds, costs)
            many = len(costs)
            stand, can_be = begun(matrix, bounds, [])
            labels = guessed(rows, wide, dear)
            near = headed(opened(rows, wide), labels, many)
            far, could_be = begun(rows, wide, labels)
            self.assertEqual(can_be, could_be)
            if can_be:
                amounts = amounts_of(lowered(stand, costs + [0] * len(matrix), many)[0], many)
                least = sum(costs[at] * worth(amounts[at]) for at in amounts)
                stand = lowered(far, dear + [0] * len(matrix), many)[0]
                amounts = amounts_of(stand, many)
                self.assertEqual(sum(dear[at] * worth(amounts[at]) for at in amounts), least)
                own = [amounts_of(near, many).get(at, (0, 1)) for at in range(many)]
                fits = can_stand(near) and sum(
                    cost * worth(amount) for cost, amount in zip(dear, own)) == least
                right += fits
                wrong += not fits
        # Nearly all guesses are right.
        self.assertGreater(right, 60)
        self.assertLess(wrong, 5)

    def test_lacks(self):
        matrix, bounds = [[1, 1], [1, 1]], [2, 3]
        stand, can_be = begun(matrix, bounds, [])
        self.assertFalse(can_be)
        prices = prices_of(stand, lack_costs(2, 2), 2)
        self.assertEqual(sum(worth(price) * bound for price, bound in zip(prices, bounds)), 1)
        self.assertEqual(pair_of(Fraction(1)), (1, 1))


if __name__ == "__main__":
    unittest.main()
