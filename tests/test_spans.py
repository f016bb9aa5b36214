"""STRETCHES, SPANS, PIECES, and whether there is a STEP."""

import unittest

from forehouse import spans
from forehouse.errors import BadNumber, BadPaper, NotWider
from forehouse.lefts import left_table, right_table
from forehouse.rests import check_wider
from forehouse.rewards import greatest_paper
from forehouse.tables import right_share
from tests.makers import Maker, rest, share_of_integers, whole, worth
from tests.wrongs import FRACTIONS, ODD, TABLES

# From 1 to 0 and 2, and from 3 to 2 and 4: two STRETCHES that touch at 2; 9 stays.
ONE = share_of_integers((1, 2), (3, 2), (9, 1))
OTHER = share_of_integers((0, 1), (2, 2), (4, 1), (9, 1))
# From -1 and 1 to -2, 0 and 2: one STRETCH, with 0 within.
NEAR = share_of_integers((-1, 4), (1, 4))
FAR = share_of_integers((-2, 3), (0, 2), (2, 3))

PAIRS = (spans.stretches, spans.pieces, spans.fixed_share)


def is_closed(one, other, mark):
    return rest(one, mark) == rest(other, mark)


class SpansTest(unittest.TestCase):

    def test_stretches_by_hand(self):
        low, middle, high = whole(0), whole(2), whole(4)
        self.assertEqual(spans.stretches(ONE, OTHER), ((low, middle), (middle, high)))
        self.assertEqual(spans.stretches(NEAR, FAR), ((whole(-2), whole(2)),))
        self.assertEqual(spans.stretches(ONE, ONE), ())

    def test_spans_by_hand(self):
        self.assertEqual(spans.span(ONE, OTHER, whole(1)), (whole(0), whole(2)))
        self.assertEqual(spans.span(ONE, OTHER, whole(3)), (whole(2), whole(4)))
        self.assertEqual(spans.span(ONE, OTHER, whole(9)), (whole(9), whole(9)))
        # A NUMBER of both that is closed, where two STRETCHES touch.
        one = share_of_integers((1, 2), (2, 5), (3, 2))
        other = share_of_integers((0, 1), (2, 7), (4, 1))
        self.assertEqual(spans.span(one, other, whole(2)), (whole(2), whole(2)))
        self.assertEqual(spans.fixed_share(one, other), ((whole(2), whole(5)),))

    def test_pieces_by_hand(self):
        low, middle, high = whole(0), whole(2), whole(4)
        self.assertEqual(spans.pieces(ONE, OTHER), (
            (low, middle, ((whole(1), whole(2)),), ((low, whole(1)), (middle, whole(1)))),
            (middle, high, ((whole(3), whole(2)),), ((middle, whole(1)), (high, whole(1))))))
        self.assertEqual(spans.fixed_share(ONE, OTHER), ((whole(9), whole(1)),))
        self.assertEqual(spans.fixed_share(NEAR, FAR), ())
        self.assertEqual(spans.fixed_share(ONE, ONE), ONE)
        self.assertEqual(spans.pieces(ONE, ONE), ())

    def test_stretches_by_the_words(self):
        maker = Maker(23)
        for _ in range(200):
            one, other = maker.two()
            found = spans.stretches(one, other)
            marks = sorted({worth(number) for number, _ in one + other})
            numbers = [worth(number) for number, _ in other]
            fine = marks + [(a * part + b * (5 - part)) / 5
                            for a, b in zip(marks, marks[1:]) for part in range(1, 5)]
            for mark in fine:
                inside = any(worth(low) < mark < worth(high) for low, high in found)
                self.assertEqual(is_closed(one, other, mark), not inside)
            self.assertEqual(list(found), sorted(found, key=lambda row: worth(row[0])))
            for low, high in found:
                self.assertIn(worth(low), numbers)
                self.assertIn(worth(high), numbers)

    def test_each_table_parts_into_the_pieces(self):
        maker = Maker(24)
        for _ in range(100):
            one, other = maker.two()
            tables = [left_table(one, other), right_table(one, other),
                      greatest_paper(one, other, maker.reward(one, other))[0]]
            fixed = spans.fixed_share(one, other)
            seen = list(fixed)
            for low, high, part, far in spans.pieces(one, other):
                nears = [number for number, _ in part]
                seen.extend(part)
                for near in nears:
                    self.assertTrue(worth(low) < worth(near) < worth(high))
                    self.assertEqual(spans.span(one, other, near), (low, high))
                for table in tables:
                    steps = tuple(step for step in table if step[0] in nears)
                    self.assertEqual(right_share(steps), far)
            self.assertEqual(sorted(seen, key=lambda pair: worth(pair[0])), list(one))
            for number, weight in fixed:
                for table in tables:
                    self.assertIn((number, number, weight), table)

    def test_can_go_and_its_papers(self):
        maker = Maker(25)
        for _ in range(60):
            one, other = maker.two()
            tables = [left_table(one, other), right_table(one, other)]
            for number, _ in one:
                low, high = spans.span(one, other, number)
                for far, _ in other:
                    can = worth(low) <= worth(far) <= worth(high)
                    self.assertIs(spans.can_go(one, other, number, far), can)
                    paper = spans.go_paper(one, other, number, far)
                    self.assertEqual(paper[0], "table" if can else "mark")
                    self.assertEqual(spans.check_go(one, other, number, far, paper), paper[0])
                    for table in tables:
                        has = any(step[:2] == (number, far) for step in table)
                        self.assertTrue(can or not has)


class PapersTest(unittest.TestCase):

    def refuse(self, number, far, paper, part):
        with self.assertRaises(BadPaper) as caught:
            spans.check_go(ONE, OTHER, whole(number), whole(far), paper)
        self.assertEqual(caught.exception.part, part)

    def hold(self, number, far, paper):
        told = spans.check_go(ONE, OTHER, whole(number), whole(far), paper)
        self.assertEqual(told, paper[0])

    def test_marks(self):
        self.hold(1, 4, ("mark", (2, 1)))
        self.hold(3, 0, ("mark", (2, 1)))
        self.hold(1, 9, ("mark", (5, 1)))
        self.hold(1, 9, ("mark", (13, 2)))
        self.hold(9, 4, ("mark", (9, 1)))
        self.hold(9, 4, ("mark", (5, 1)))
        for number, far, mark in ((1, 4, (3, 1)), (1, 4, (4, 1)), (1, 4, (1, 1)), (1, 4, (5, 1)),
                                  (9, 4, (4, 1)), (9, 9, (9, 1)), (1, 2, (2, 1)), (1, 2, (1, 1)),
                                  (1, 0, (0, 1)), (9, 4, (10, 1)), (3, 0, (0, 1))):
            self.refuse(number, far, ("mark", mark), "mark")
        for thing in ODD + FRACTIONS:
            self.refuse(1, 4, ("mark", thing), "mark")

    def test_tables(self):
        table = left_table(ONE, OTHER)
        self.hold(1, 2, ("table", table))
        self.hold(9, 9, ("table", table))
        self.refuse(1, 4, ("table", table), "table")
        self.refuse(1, 2, ("table", table[:-1]), "table")
        self.refuse(1, 2, ("table", left_table(ONE, ONE)), "table")
        for thing in ODD + TABLES:
            self.refuse(1, 2, ("table", thing), "table")
        # Of two TABLES only one has the STEP from -1 to 0.
        right = right_table(NEAR, FAR)
        with self.assertRaises(BadPaper) as caught:
            spans.check_go(NEAR, FAR, whole(-1), whole(0), ("table", right))
        self.assertEqual(caught.exception.part, "table")

    def test_forms(self):
        for thing in ODD + ((), ("table",), ("mark",), ("mark", (2, 1), 1), ["mark", (2, 1)],
                            ("total", (2, 1)), (("mark", (2, 1)),), 7):
            self.refuse(1, 4, thing, "form")
            self.refuse(1, 4, (thing, (2, 1)), "form")
        self.refuse(1, 4, "mark", "form")


class WrongTest(unittest.TestCase):

    def test_wrong_numbers(self):
        things = ODD + FRACTIONS + ((0, 1), (3, 2), (-1, 1))
        for thing in things + ((2, 1),):
            for call in (lambda at: spans.span(ONE, OTHER, at),
                         lambda at: spans.can_go(ONE, OTHER, at, None),
                         lambda at: spans.go_paper(ONE, OTHER, at, None),
                         lambda at: spans.check_go(ONE, OTHER, at, None, None)):
                with self.assertRaises(BadNumber) as caught:
                    call(thing)
                self.assertIs(caught.exception.given, thing)
        for thing in ODD + FRACTIONS + ((1, 1), (3, 1)):
            for call in (lambda at: spans.can_go(ONE, OTHER, whole(1), at),
                         lambda at: spans.go_paper(ONE, OTHER, whole(1), at),
                         lambda at: spans.check_go(ONE, OTHER, whole(1), at, None)):
                with self.assertRaises(BadNumber) as caught:
                    call(thing)
                self.assertIs(caught.exception.given, thing)

    def test_not_wider_behind_numbers_and_ahead_of_papers(self):
        for call in PAIRS:
            with self.assertRaises(NotWider) as caught:
                call(OTHER, ONE)
            self.assertEqual(check_wider(OTHER, ONE, caught.exception.paper), "mark")
        self.assertRaises(NotWider, spans.span, OTHER, ONE, whole(0))
        self.assertRaises(BadNumber, spans.span, OTHER, ONE, whole(1))
        self.assertRaises(NotWider, spans.can_go, OTHER, ONE, whole(0), whole(1))
        self.assertRaises(BadNumber, spans.can_go, OTHER, ONE, whole(0), whole(0))
        self.assertRaises(NotWider, spans.go_paper, OTHER, ONE, whole(0), whole(1))
        self.assertRaises(NotWider, spans.check_go, OTHER, ONE, whole(0), whole(1), None)
        self.assertRaises(BadNumber, spans.check_go, OTHER, ONE, whole(0), whole(0), None)


if __name__ == "__main__":
    unittest.main()
