"""TALKS: the ROUND TALK, and Talks that are led."""

import unittest

from forehouse import talks
from forehouse.errors import BadNumber, BadPaper, BadState, BadViews, BadWorld, NothingLeft
from forehouse.talks import Talk, under
from forehouse.views import forecasts, is_finer, join_of, view_by
from tests.makers import Maker, whole, world_of_integers
from tests.wrongs import INTEGERS, ODD, SOME_VIEWS, STATES, WORLDS

# Nine STATES, two of them with the WORTH 1.
WORLD = world_of_integers(*[(1, 1 if at in (2, 3) else 0) for at in range(9)])
FIRST = ((0, 1, 2), (3, 4, 5), (6, 7, 8))
SECOND = ((0, 1, 2, 3), (4, 5, 6, 7), (8,))
VIEWS = (FIRST, SECOND)
THIRD, HALF, NONE, ONE = (1, 3), (1, 2), (0, 1), (1, 1)
TOLD = ((THIRD,) * 6 + (NONE,) * 3,
        (HALF,) * 4 + (NONE,) * 5,
        (THIRD,) * 3 + (ONE,) + (NONE,) * 5)
LAST = ((0, 1, 2), (3,), (4, 5), (6, 7, 8))
WHOLE = (tuple(range(9)),)


def led(*numbers):
    talk = Talk(WORLD, VIEWS)
    for number in numbers:
        talk.tell(number)
    return talk


class RoundTalkTest(unittest.TestCase):

    def test_by_hand(self):
        self.assertEqual(talks.round_talk(WORLD, VIEWS), TOLD)
        self.assertEqual(talks.last_public(WORLD, VIEWS), LAST)
        self.assertEqual(talks.check_talk(WORLD, VIEWS, TOLD), LAST)

    def test_that_rests_at_first(self):
        self.assertEqual(talks.round_talk(WORLD, (WHOLE,)), ())
        self.assertEqual(talks.last_public(WORLD, (WHOLE,)), WHOLE)
        self.assertEqual(talks.check_talk(WORLD, (WHOLE,), ()), WHOLE)

    def test_tellings_that_change_nothing_are_told_too(self):
        views = (WHOLE, FIRST)
        mean = (2, 9)
        self.assertEqual(talks.round_talk(WORLD, views), ((mean,) * 9, TOLD[0]))

    def test_who_tells_first_may_matter(self):
        ends = {talks.last_public(WORLD, VIEWS), talks.last_public(WORLD, VIEWS[::-1])}
        self.assertEqual(len(ends), 2)

    def test_facts(self):
        maker = Maker(10)
        for _ in range(150):
            world = maker.world()
            many = len(world)
            views = tuple(maker.view(many) for _ in range(maker.between(1, 4)))
            told = talks.round_talk(world, views)
            public = (tuple(range(many)),)
            changes = 0
            for number, row in enumerate(told):
                view = views[number % len(views)]
                self.assertEqual(row, forecasts(world, join_of(world, (view, public))))
                later = join_of(world, (public, view_by(world, row)))
                changes += later != public
                public = later
                self.assertEqual(forecasts(world, public), row)
            self.assertLess(changes, many)
            self.assertEqual(public, talks.last_public(world, views))
            self.assertTrue(is_finer(world, join_of(world, views), public))
            for view in views:
                self.assertEqual(forecasts(world, join_of(world, (view, public))),
                                 forecasts(world, public))


class CheckTalkTest(unittest.TestCase):

    def refuse(self, paper, part, views=VIEWS):
        with self.assertRaises(BadPaper) as caught:
            talks.check_talk(WORLD, views, paper)
        self.assertEqual(caught.exception.part, part)

    def test_forms(self):
        for thing in ODD + (1, [TOLD[0]], (TOLD[0], list(TOLD[1])), (1,), ((), None)):
            if isinstance(thing, tuple) and all(isinstance(part, tuple) for part in thing):
                continue
            self.refuse(thing, "form")

    def test_the_first_that_is_not_as_told(self):
        self.refuse(((),), 0)
        self.refuse((TOLD[0], TOLD[0], ()), 1)
        self.refuse((TOLD[0], TOLD[1][:-1], TOLD[2]), 1)
        self.refuse((TOLD[0], TOLD[1] + (NONE,), TOLD[2]), 1)
        for thing in ODD:
            self.refuse((TOLD[0], TOLD[1], TOLD[2][:-1] + (thing,)), 2)
        # True and False are no integers, though Python takes them for 1 and 0.
        self.refuse((TOLD[0], TOLD[1], TOLD[2][:-1] + ((False, True),)), 2)
        self.refuse((TOLD[0], TOLD[1], TOLD[2][:-1] + ((0, 2),)), 2)

    def test_lacking_and_one_too_many(self):
        self.refuse((), 0)
        self.refuse(TOLD[:1], 1)
        self.refuse(TOLD[:2], 2)
        self.refuse(TOLD + (TOLD[2],), 3)
        self.refuse(TOLD + (TOLD[2], TOLD[2]), 3)
        self.refuse(((),), 0, (WHOLE,))


class TalkTest(unittest.TestCase):

    def test_it_begins_with_one_cell(self):
        talk = Talk(WORLD, VIEWS)
        self.assertEqual((talk.world, talk.views), (WORLD, VIEWS))
        self.assertEqual(talk.public(), WHOLE)
        self.assertIs(talk.rests(), False)
        self.assertEqual(talk.heard(0), ())
        self.assertEqual(len(talk), 0)
        self.assertIs(Talk(WORLD, (WHOLE,)).rests(), True)

    def test_telling(self):
        talk = Talk(WORLD, VIEWS)
        self.assertEqual(talk.tell(0), TOLD[0])
        self.assertEqual(talk.public(), ((0, 1, 2, 3, 4, 5), (6, 7, 8)))
        self.assertEqual(talk.tell(1), TOLD[1])
        self.assertEqual(talk.tell(0), TOLD[2])
        self.assertEqual(talk.public(), LAST)
        self.assertIs(talk.rests(), True)
        self.assertEqual(talk.heard(3), (THIRD, HALF, ONE))
        self.assertEqual(talk.tell(1), TOLD[2])
        self.assertEqual(len(talk), 4)
        self.assertEqual(talk.heard(8), (NONE,) * 4)

    def test_wrong_arguments(self):
        talk = led(0)
        for thing in ODD + (-1, 2, 10 ** 40, (0,), "0"):
            with self.assertRaises(BadNumber) as caught:
                talk.tell(thing)
            self.assertIs(caught.exception.given, thing)
        for thing in ODD + (-1, 9, 10 ** 40, (0,), "0"):
            with self.assertRaises(BadState) as caught:
                talk.heard(thing)
            self.assertIs(caught.exception.given, thing)
        for thing in ODD + (0, -1, -10 ** 40, (1,), "1"):
            with self.assertRaises(BadNumber) as caught:
                talk.undo(thing)
            self.assertIs(caught.exception.given, thing)
        self.assertTrue(talk == led(0))

    def test_wrong_worlds_and_views(self):
        three = world_of_integers((1, 0), (1, 1), (1, 2))
        for world in WORLDS:
            self.assertRaises(BadWorld, Talk, world, None)
        for views in ODD + SOME_VIEWS:
            with self.assertRaises(BadViews) as caught:
                Talk(three, views)
            self.assertIs(caught.exception.given, views)

    def test_undo(self):
        talk = led(0, 1, 0, 1)
        self.assertIsNone(talk.undo())
        self.assertTrue(talk == led(0, 1, 0))
        talk.undo(many=2)
        self.assertTrue(talk == led(0))
        self.assertEqual(talk.heard(0), (THIRD,))
        self.assertEqual(talk.public(), led(0).public())
        with self.assertRaises(NothingLeft) as caught:
            talk.undo(2)
        self.assertEqual(caught.exception.many, 2)
        self.assertEqual(len(talk), 1)
        talk.undo(1)
        self.assertEqual((len(talk), talk.public()), (0, WHOLE))
        self.assertRaises(NothingLeft, talk.undo)
        self.assertRaises(NothingLeft, talk.undo, 10 ** 50)
        self.assertEqual(talk.tell(0), TOLD[0])

    def test_copies_go_on_by_themselves(self):
        talk = led(0, 1)
        other = talk.copy()
        self.assertIsInstance(other, Talk)
        self.assertTrue(talk == other)
        other.tell(0)
        self.assertEqual((len(talk), len(other)), (2, 3))
        other.undo(3)
        self.assertEqual((len(talk), len(other)), (2, 0))
        talk.tell(1)
        self.assertEqual(len(other), 0)

    def test_equality(self):
        self.assertTrue(led(0, 1) == led(0, 1))
        self.assertFalse(led(0, 1) != led(0, 1))
        self.assertFalse(led(0, 1) == led(1, 0))
        self.assertFalse(led(0, 0) == led(0))
        self.assertFalse(Talk(WORLD, VIEWS) == Talk(WORLD, VIEWS[::-1]))
        self.assertFalse(Talk(WORLD, VIEWS) == Talk(WORLD, VIEWS + VIEWS))
        other = WORLD[:-1] + ((ONE, ONE),)
        self.assertFalse(Talk(WORLD, VIEWS) == Talk(other, VIEWS))
        # The same was told, but by another speaker.
        twice = (FIRST, FIRST)
        one, another = Talk(WORLD, twice), Talk(WORLD, twice)
        self.assertEqual(one.tell(0), another.tell(1))
        self.assertFalse(one == another)
        for thing in (None, 1, (), "talk", [], WORLD):
            self.assertFalse(led() == thing)
            self.assertTrue(led() != thing)

    def test_against_the_round_talk(self):
        maker = Maker(11)
        for _ in range(60):
            world = maker.world()
            views = tuple(maker.view(len(world)) for _ in range(maker.between(1, 4)))
            talk = Talk(world, views)
            told = []
            while not talk.rests():
                told.append(talk.tell(len(talk) % len(views)))
            self.assertEqual(tuple(told), talks.round_talk(world, views))
            self.assertEqual(talk.public(), talks.last_public(world, views))
            for state in range(len(world)):
                self.assertEqual(talk.heard(state), tuple(row[state] for row in told))


class TrialTest(unittest.TestCase):

    def test_it_gives_the_talk_and_puts_it_back(self):
        talk = led(0)
        with talk.trial() as one:
            self.assertIs(one, talk)
            one.tell(1)
            self.assertEqual(len(talk), 2)
        self.assertTrue(talk == led(0))
        self.assertEqual(talk.public(), led(0).public())

    def test_what_can_be_taken_back_is_put_back(self):
        talk = led(0, 1)
        with talk.trial():
            talk.undo(2)
            talk.tell(1)
        self.assertTrue(talk == led(0, 1))
        talk.undo(2)
        self.assertEqual(len(talk), 0)

    def test_an_error_goes_on(self):
        talk = led(0)
        with self.assertRaises(ZeroDivisionError):
            with talk.trial():
                talk.tell(1)
                raise ZeroDivisionError
        self.assertTrue(talk == led(0))
        with self.assertRaises(BadNumber):
            with talk.trial() as one:
                one.tell(0)
                one.tell(7)
        self.assertTrue(talk == led(0))

    def test_one_object_for_several_blocks(self):
        talk = led()
        trial = talk.trial()
        talk.tell(0)
        with trial:
            talk.tell(1)
        self.assertTrue(talk == led(0))
        talk.tell(1)
        with trial as one:
            one.undo(2)
        self.assertTrue(talk == led(0, 1))

    def test_trials_within_one_another(self):
        talk = led(0)
        with talk.trial():
            talk.tell(1)
            with talk.trial():
                talk.undo(2)
            self.assertTrue(talk == led(0, 1))
        self.assertTrue(talk == led(0))

    def test_return_out_of_a_block(self):
        talk = led()

        def early():
            with talk.trial() as one:
                return one.tell(0)

        self.assertEqual(early(), TOLD[0])
        self.assertEqual(len(talk), 0)


class Manager:

    def __init__(self, swallows):
        self.swallows = swallows
        self.seen = []

    def __enter__(self):
        self.seen.append("in")
        return "given"

    def __exit__(self, kind, value, trace):
        self.seen.append(kind)
        return self.swallows


class UnderTest(unittest.TestCase):

    def test_what_deed_returns(self):
        talk = led()
        self.assertEqual(under(talk.trial(), lambda one: one.tell(0)), TOLD[0])
        self.assertEqual(len(talk), 0)
        self.assertIs(under(talk.trial(), lambda one: one), talk)
        manager = Manager(False)
        self.assertEqual(under(manager, lambda one: one + "!"), "given!")
        self.assertEqual(manager.seen, ["in", None])

    def test_errors(self):
        talk = led()
        with self.assertRaises(BadNumber):
            under(talk.trial(), lambda one: one.tell(5))

        def fail(one):
            raise KeyError(one)

        self.assertIsNone(under(Manager(True), fail))
        self.assertRaises(KeyError, under, Manager(False), fail)

    def test_arguments_are_not_kept(self):
        # Plain tuples stand in the Talk, whatever was passed.
        class Row(tuple):
            pass

        world = Row(Row((Row((1, 1)), Row(whole(at)))) for at in range(3))
        talk = Talk(world, Row((Row((Row((0, 1)), Row((2,)))),)))
        self.assertEqual(talk.world, world)
        self.assertIs(type(talk.world), tuple)
        self.assertIs(type(talk.views[0][0]), tuple)
        for state in STATES:
            self.assertRaises(BadState, talk.heard, state)
        for number in INTEGERS:
            if number != 0:
                self.assertRaises(BadNumber, talk.tell, number)


if __name__ == "__main__":
    unittest.main()
