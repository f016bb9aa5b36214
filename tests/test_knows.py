"""What is known, and what is COMMON."""

import unittest

from forehouse import knows
from forehouse.errors import BadNumber, BadPaper
from forehouse.views import meet_of
from tests.makers import Maker, world_of_integers
from tests.wrongs import INTEGERS, ODD

# Two VIEWS that go on from one another: 0 1 | 2 3 | 4 and 0 | 1 2 | 3 4.
WORLD = world_of_integers((1, 0), (1, 1), (1, 2), (1, 3), (1, 4))
LEFT = ((0, 1), (2, 3), (4,))
RIGHT = ((0,), (1, 2), (3, 4))
BOTH = (LEFT, RIGHT)
EVENT = (0, 1, 2, 3)


def by_turns(views, event, many, times):
    """KNOWN so many times, by the words of the document."""
    for _ in range(times):
        event = tuple(state for state in range(many)
                      if all(set(cell) <= set(event) for view in views for cell in view
                             if state in cell))
    return event


class KnowsTest(unittest.TestCase):

    def test_does_know(self):
        told = [knows.does_know(WORLD, LEFT, EVENT, state) for state in range(5)]
        self.assertEqual(told, [True, True, True, True, False])
        told = [knows.does_know(WORLD, RIGHT, EVENT, state) for state in range(5)]
        self.assertEqual(told, [True, True, True, False, False])
        self.assertIs(knows.does_know(WORLD, LEFT, (), 0), False)

    def test_known_times_by_hand(self):
        rows = [(0, 1, 2, 3), (0, 1, 2), (0, 1), (0,), ()]
        for times, lot in enumerate(rows):
            self.assertEqual(knows.known_times(WORLD, BOTH, EVENT, times), lot)
        self.assertEqual(knows.known_times(WORLD, BOTH, EVENT, 10 ** 50), ())
        whole = (0, 1, 2, 3, 4)
        self.assertEqual(knows.known_times(WORLD, BOTH, whole, 9), whole)
        self.assertEqual(knows.known_times(WORLD, BOTH, (), 0), ())

    def test_known_times_refuses_wrong_numbers(self):
        for thing in ODD + INTEGERS:
            if isinstance(thing, int) and not isinstance(thing, bool) and thing >= 0:
                continue
            with self.assertRaises(BadNumber) as caught:
                knows.known_times(WORLD, BOTH, EVENT, thing)
            self.assertIs(caught.exception.given, thing)

    def test_common_and_depth_by_hand(self):
        self.assertEqual(knows.common(WORLD, BOTH, EVENT), ())
        self.assertEqual([knows.depth(WORLD, BOTH, EVENT, at) for at in range(5)], [4, 3, 2, 1, 0])
        self.assertEqual(knows.common(WORLD, (LEFT,), EVENT), EVENT)
        self.assertIsNone(knows.depth(WORLD, (LEFT,), EVENT, 2))
        self.assertEqual(knows.depth(WORLD, (LEFT,), EVENT, 4), 0)

    def test_all_against_the_words_of_the_document(self):
        maker = Maker(7)
        for _ in range(200):
            many = maker.between(1, 7)
            world = world_of_integers(*[(1, at) for at in range(many)])
            views = tuple(maker.view(many) for _ in range(maker.between(1, 4)))
            event = maker.lot(many)
            depths = [knows.depth(world, views, event, at) for at in range(many)]
            for times in range(many + 2):
                lot = by_turns(views, event, many, times)
                self.assertEqual(knows.known_times(world, views, event, times), lot)
                self.assertEqual(lot, tuple(at for at in range(many)
                                            if depths[at] is None or depths[at] > times))
            common = by_turns(views, event, many, many + 1)
            self.assertEqual(knows.common(world, views, event), common)
            for at in range(many):
                paper = knows.common_paper(world, views, event, at)
                self.assertEqual(knows.check_common(world, views, event, at, paper), paper[0])
                self.assertEqual(paper[0] == "common", at in common)
                if paper[0] == "way":
                    self.assertEqual(len(paper[2]), depths[at])

    def test_36_states_in_a_row(self):
        world = world_of_integers(*[(1, at) for at in range(36)])
        left = tuple((at, at + 1) for at in range(0, 36, 2))
        right = ((0,),) + tuple((at, at + 1) for at in range(1, 35, 2)) + ((35,),)
        event = tuple(range(35))
        self.assertEqual(knows.depth(world, (left, right), event, 0), 35)
        paper = knows.common_paper(world, (left, right), event, 0)
        self.assertEqual(paper, ("way", tuple(range(36)), (0, 1) * 17 + (0,)))
        self.assertEqual(knows.check_common(world, (left, right), event, 0, paper), "way")


class PapersTest(unittest.TestCase):

    def refuse(self, paper, part, event=EVENT, state=2, views=BOTH):
        with self.assertRaises(BadPaper) as caught:
            knows.check_common(WORLD, views, event, state, paper)
        self.assertEqual(caught.exception.part, part)

    def hold(self, paper, event=EVENT, state=2, views=BOTH):
        self.assertEqual(knows.check_common(WORLD, views, event, state, paper), paper[0])

    def test_ways_that_hold(self):
        self.hold(("way", (2, 3, 4), (0, 1)))
        self.hold(("way", (4,), ()), state=4)
        self.hold(("way", (0,), ()), event=(), state=0)
        self.assertEqual(knows.common_paper(WORLD, BOTH, EVENT, 4), ("way", (4,), ()))

    def test_of_several_views_any_may_be_named(self):
        views = (LEFT, LEFT, RIGHT)
        self.hold(("way", (2, 3, 4), (0, 2)), views=views)
        self.hold(("way", (2, 3, 4), (1, 2)), views=views)
        self.refuse(("way", (2, 3, 4), (2, 2)), "way", views=views)

    def test_ways_that_do_not_hold(self):
        for states, numbers in (((2, 3), (0,)), ((2, 4), (0,)), ((2, 3, 4), (1, 1)),
                                ((2, 3, 4), (0,)), ((3, 4), (1,)), ((2, 1, 2, 3, 4), (1, 1, 0, 1)),
                                ((2, 3, 4), (0, 1, 1)), ((2, 3, 4), [0, 1]), ([2, 3, 4], (0, 1)),
                                ((2, 3, 5), (0, 1)), ((2, 3, 4), (0, 2)), ((2, 3, 4), (0, -1)),
                                ((2, 3, 4), (False, True)), ((), ()), ((2, 2, 3, 4), (0, 0, 1)),
                                ((2,), ()), ((2, 3, 4), ())):
            self.refuse(("way", states, numbers), "way")
        for thing in ODD:
            self.refuse(("way", thing, (0, 1)), "way")
            self.refuse(("way", (2, 3, 4), thing), "way")
            self.refuse(("way", (2, 3, thing), (0, 1)), "way")
            self.refuse(("way", (2, 3, 4), (0, thing)), "way")

    def test_a_longer_way_than_needed_does_not_hold(self):
        views = (LEFT, RIGHT, ((0, 1, 2, 3, 4),))
        self.hold(("way", (2, 4), (2,)), views=views)
        self.refuse(("way", (2, 3, 4), (0, 1)), "way", views=views)

    def test_as_long_as_needed_but_from_or_to_elsewhere(self):
        views = (((0, 1, 2, 3, 4),),)
        self.hold(("way", (0, 4), (0,)), event=(0, 1), state=0, views=views)
        self.refuse(("way", (1, 4), (0,)), "way", event=(0, 1), state=0, views=views)
        self.refuse(("way", (0, 1), (0,)), "way", event=(0, 1), state=0, views=views)

    def test_common_papers(self):
        self.hold(("common", (2, 3)), views=(LEFT,))
        self.assertEqual(knows.common_paper(WORLD, (LEFT,), EVENT, 2), ("common", (2, 3)))
        for thing in ODD + ((2,), (0, 1), (3, 2), (2, 3, 4), [2, 3], (), (2, True)):
            self.refuse(("common", thing), "common", views=(LEFT,))
        self.refuse(("common", (0, 1, 2, 3, 4)), "common")
        self.refuse(("way", (2, 3), (0,)), "way", views=(LEFT,))
        # True is no number of a STATE.
        self.refuse(("common", (0, True)), "common", views=(LEFT,), state=0)
        self.assertEqual(meet_of(WORLD, (LEFT,)), LEFT)

    def test_forms(self):
        for paper in ODD + ((), ("way",), ("common",), ("way", ()), ("common", (), ()), ("wide", ()),
                            ("way", (2, 3, 4), (0, 1), ()), ["way", (2, 3, 4), (0, 1)]):
            self.refuse(paper, "form")
        for thing in ODD:
            self.refuse((thing, (2, 3, 4), (0, 1)), "form")
            self.refuse((thing, (0, 1)), "form")


if __name__ == "__main__":
    unittest.main()
