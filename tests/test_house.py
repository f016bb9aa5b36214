"""A HOUSE that is led: hands tell and say, EARN, take back, try."""

import unittest
from fractions import Fraction

from forehouse import house, moves
from forehouse.errors import (BadFraction, BadHand, BadLadder, BadNumber, BadSaid, BadViews, BadWorld,
                              NothingLeft)
from forehouse.house import House, under
from forehouse.talks import Talk
from forehouse.views import forecasts, join_of, share_of, view_by
from tests import wrongs
from tests.makers import Maker, pair_of, whole, world_of_integers, worth
from tests.wrongs import ODD

HALF = (1, 2)
WORLD = world_of_integers((1, 0), (1, 2), (2, 4))
VIEWS = (((0, 1), (2,)), ((0,), (1, 2)))
LADDER = ((whole(1), whole(1)), (whole(3), whole(2)))
FIRST = whole(2)
NOUGHTS = (whole(0),) * 3


def made(*deeds):
    """A House with these deeds: numbers of hands that tell, and pairs that say."""
    led = House(WORLD, VIEWS, LADDER, FIRST)
    for deed in deeds:
        if isinstance(deed, tuple):
            led.say(*deed)
        else:
            led.tell(deed)
    return led


def state_of(led):
    """All that can be asked of a House."""
    hands = range(len(led.views))
    return (led.world, led.views, led.ladder, led.first, led.reports(), led.public(), len(led),
            led.paid_out(), [led.earned(hand) for hand in hands],
            [led.mean_of_hand(hand) for hand in hands], [led.told_next(hand) for hand in hands])


def any_house(maker, most=5):
    world = maker.world(most)
    views = tuple(maker.view(len(world)) for _ in range(maker.between(1, 4)))
    return House(world, views, maker.ladder(), maker.fraction())


def any_said(maker, led, hand):
    """What a hand can say."""
    view = join_of(led.world, (led.views[hand], led.public()))
    said = {}
    for cell in view:
        number = maker.fraction()
        for state in cell:
            said[state] = number
    return tuple(said[state] for state in range(len(led.world)))


class ByHandTest(unittest.TestCase):

    def test_at_first(self):
        led = made()
        self.assertEqual((led.world, led.views, led.ladder, led.first), (WORLD, VIEWS, LADDER, FIRST))
        self.assertEqual(led.reports(), (FIRST,) * 3)
        self.assertEqual(led.public(), ((0, 1, 2),))
        for hand in (0, 1):
            self.assertEqual(led.earned(hand), NOUGHTS)
            self.assertEqual(led.mean_of_hand(hand), whole(0))
        self.assertEqual(led.paid_out(), NOUGHTS)
        self.assertEqual(len(led), 0)
        self.assertEqual(led.told_next(0), (whole(1), whole(1), whole(4)))

    def test_telling(self):
        led = made()
        # From 2 to 1 nothing is passed; from 2 to 4 two units at 3, for what is worth 4.
        self.assertEqual(led.tell(0), (whole(0), whole(0), whole(2)))
        self.assertEqual(led.reports(), (whole(1), whole(1), whole(4)))
        self.assertEqual(led.public(), ((0, 1), (2,)))
        self.assertEqual(led.mean_of_hand(0), whole(1))
        # From 1 to 0 one unit at 1 is sold, for what is worth 0; from 1 to 2 nothing.
        self.assertEqual(led.told_next(1), (whole(0), whole(2), whole(4)))
        self.assertEqual(led.tell(1), (whole(1), whole(0), whole(0)))
        self.assertEqual(led.public(), ((0,), (1,), (2,)))
        self.assertEqual(led.earned(0), (whole(0), whole(0), whole(2)))
        self.assertEqual(led.earned(1), (whole(1), whole(0), whole(0)))
        self.assertEqual(led.mean_of_hand(1), (1, 4))
        self.assertEqual(led.paid_out(), (whole(1), whole(0), whole(2)))
        # Telling that changes nothing is a deed, too.
        self.assertEqual(led.tell(1), NOUGHTS)
        self.assertEqual(len(led), 3)

    def test_saying(self):
        led = made()
        # The REPORT goes to 5 for 0 and 1, to 0 for the last one.
        said = (whole(5), whole(5), whole(0))
        self.assertEqual(led.say(0, said), (whole(-6), whole(-2), whole(-3)))
        self.assertEqual(led.reports(), said)
        self.assertEqual(led.public(), ((0, 1), (2,)))
        # Now the hand 1 knows each STATE: it can say what it could not at first.
        apart = (whole(5), whole(1), whole(0))
        self.assertRaises(BadSaid, made().say, 1, apart)
        self.assertEqual(led.say(1, apart), (whole(0), whole(2), whole(0)))
        self.assertEqual(led.public(), ((0,), (1,), (2,)))
        self.assertEqual(led.mean_of_hand(0), (-7, 2))
        self.assertEqual(led.mean_of_hand(1), HALF)
        # PUBLIC never becomes coarser, whatever is said.
        led.say(0, (whole(2),) * 3)
        self.assertEqual(led.public(), ((0,), (1,), (2,)))
        self.assertEqual(led.reports(), (whole(2),) * 3)
        self.assertEqual(led.paid_out(), NOUGHTS)

    def test_undo(self):
        led = made(0, 1, (0, (whole(1), whole(1), whole(1))), 1)
        stands = [state_of(made(0, 1)), state_of(made(0)), state_of(made())]
        self.assertIsNone(led.undo(2))
        self.assertEqual(state_of(led), stands[0])
        led.undo()
        self.assertEqual(state_of(led), stands[1])
        led.undo(many=1)
        self.assertEqual(state_of(led), stands[2])
        for many in (1, 10 ** 30):
            with self.assertRaises(NothingLeft) as caught:
                led.undo(many)
            self.assertEqual(caught.exception.many, many)
        led.tell(0)
        with self.assertRaises(NothingLeft):
            led.undo(2)
        self.assertEqual(state_of(led), stands[1])
        for thing in ODD + (0, -1, -10 ** 30, "1", (1,)):
            with self.assertRaises(BadNumber) as caught:
                led.undo(thing)
            self.assertIs(caught.exception.given, thing)
        self.assertEqual(state_of(led), stands[1])

    def test_copies(self):
        led = made(0)
        other = led.copy()
        self.assertIsInstance(other, House)
        self.assertTrue(led == other)
        other.tell(1)
        self.assertEqual(state_of(led), state_of(made(0)))
        self.assertEqual(state_of(other), state_of(made(0, 1)))
        led.undo()
        other.undo(2)
        self.assertTrue(led == other and led == made())

    def test_equal(self):
        same = (whole(1), whole(1), whole(4))
        self.assertTrue(made() == made())
        self.assertTrue(made(0, 1) == made(0, 1))
        self.assertFalse(made(0, 1) != made(0, 1))
        self.assertTrue(made((0, same)) == made((0, same)))
        # Telling and saying the same is not the same deed, nor is it of another hand.
        for one, other in ((made(0), made((0, same))), (made(0), made()), (made(0, 1), made(1, 0)),
                           (made((0, same)), made((0, (whole(1), whole(1), whole(3))))),
                           (made(0, 1, 0), made(0, 1, 1))):
            self.assertFalse(one == other)
            self.assertTrue(one != other)
        for args in ((WORLD[:2], (((0, 1),),), LADDER, FIRST), (WORLD, VIEWS[::-1], LADDER, FIRST),
                     (WORLD, VIEWS, LADDER[:1], FIRST), (WORLD, VIEWS, LADDER, HALF)):
            self.assertFalse(made() == House(*args))
        for thing in (None, 0, (), "House", VIEWS, Talk(WORLD, VIEWS)):
            self.assertFalse(made() == thing)
            self.assertTrue(made() != thing)
        led = made(0, 1)
        led.undo()
        self.assertTrue(led == made(0))


class TrialTest(unittest.TestCase):

    def test_puts_back(self):
        led = made(0)
        with led.trial() as one:
            self.assertIs(one, led)
            one.tell(1)
            one.say(0, (whole(1),) * 3)
            self.assertEqual(len(led), 3)
        self.assertEqual(state_of(led), state_of(made(0)))
        # What was taken back is there again.
        with led.trial():
            led.undo()
            led.tell(1)
            led.tell(1)
        self.assertEqual(state_of(led), state_of(made(0)))
        led.undo()
        self.assertTrue(led == made())

    def test_an_error_goes_on(self):
        led = made(0)
        with self.assertRaises(KeyError):
            with led.trial() as one:
                one.tell(1)
                raise KeyError
        self.assertTrue(led == made(0))

    def test_one_object_for_several_blocks(self):
        led = made()
        trial = led.trial()
        led.tell(0)
        with trial as one:
            one.tell(1)
        # It begins when it is entered.
        self.assertTrue(led == made(0))
        led.tell(1)
        with trial as one:
            one.undo(2)
        self.assertTrue(led == made(0, 1))

    def test_within_one_another(self):
        led = made()
        with led.trial():
            led.tell(0)
            with led.trial():
                led.tell(1)
            self.assertTrue(led == made(0))
        self.assertTrue(led == made())

    def test_under(self):
        led = made()
        self.assertEqual(under(led.trial(), lambda one: one.tell(0)), (whole(0), whole(0), whole(2)))
        self.assertEqual(len(led), 0)
        self.assertRaises(BadHand, under, led.trial(), lambda one: one.tell(7))

        class Quiet:
            def __enter__(self):
                return 5

            def __exit__(self, kind, value, trace):
                return True

        def fail(one):
            raise ValueError(one)

        self.assertIsNone(under(Quiet(), fail))
        self.assertEqual(under(Quiet(), lambda one: one + 1), 6)
        self.assertEqual(under.__module__, house.__name__)


class RefusedTest(unittest.TestCase):

    def test_errors_in_turn(self):
        for thing in ODD + wrongs.WORLDS:
            self.assertRaises(BadWorld, House, thing, None, None, None)
        for thing in ODD + wrongs.SOME_VIEWS:
            self.assertRaises(BadViews, House, WORLD, thing, None, None)
        for thing in ODD + wrongs.LADDERS:
            self.assertRaises(BadLadder, House, WORLD, VIEWS, thing, None)
        for thing in ODD + wrongs.FRACTIONS:
            with self.assertRaises(BadFraction) as caught:
                House(WORLD, VIEWS, LADDER, thing)
            self.assertIs(caught.exception.given, thing)

    def test_a_refused_deed_changes_nothing(self):
        led = made(0)
        before = state_of(led)
        for thing in ODD + wrongs.HANDS:
            for call in (led.tell, lambda hand: led.say(hand, None), led.earned, led.mean_of_hand,
                         led.told_next):
                with self.assertRaises(BadHand) as caught:
                    call(thing)
                self.assertIs(caught.exception.given, thing)
        for thing in ODD + wrongs.BETS + ((whole(1), whole(2), whole(2)),):
            for one in (led, made()):
                with self.assertRaises(BadSaid) as caught:
                    one.say(0, thing)
                self.assertIs(caught.exception.given, thing)
        self.assertEqual(state_of(led), before)
        self.assertEqual(len(led), 1)

    def test_what_is_passed_stays(self):
        class Row(tuple):
            pass

        said = Row((whole(1), whole(1), whole(4)))
        led = House(Row(WORLD), Row(VIEWS), Row(LADDER), Row(FIRST))
        led.say(0, said)
        for thing in (led.world, led.views, led.ladder, led.first, led.reports()):
            self.assertIs(type(thing), tuple)
        self.assertEqual(led.reports(), said)


class FactsTest(unittest.TestCase):

    def test_facts(self):
        maker = Maker(190)
        said_less = 0
        for _ in range(150):
            led = any_house(maker)
            weight = sum(worth(own) for own, _ in led.world)
            stands = [state_of(led)]
            for _ in range(maker.between(1, 6)):
                hand = maker.below(len(led.views))
                ahead, public = led.reports(), led.public()
                told = forecasts(led.world, join_of(led.world, (led.views[hand], public)))
                self.assertEqual(led.told_next(hand), told)
                said = any_said(maker, led, hand)
                best, other = led.copy(), led.copy()
                means = []
                for one, earned in ((best, best.tell(hand)), (other, other.say(hand, said))):
                    self.check_deed(led, one, ahead, public, earned)
                    means.append(sum(worth(own) * worth(part)
                                     for (own, _), part in zip(led.world, earned)) / weight)
                # Telling earns nought or more, and no less than whatever could be said.
                self.assertGreaterEqual(means[0], max(means[1], 0))
                said_less += means[1] < means[0]
                self.assertEqual(best.reports(), told)
                self.assertEqual(other.reports(), said)
                led = self.last_told(best) if maker.below(2) else other
                stands.append(state_of(led))
            for number in range(len(stands) - 1, 0, -1):
                self.assertEqual(state_of(led), stands[number])
                led.undo()
            self.assertEqual(state_of(led), stands[0])
        self.assertGreater(said_less, 80)

    def check_deed(self, led, one, ahead, public, earned):
        """What one deed EARNED, and all together."""
        later = one.reports()
        self.assertEqual(one.public(), join_of(led.world, (public, view_by(led.world, later))))
        for state, (_, value) in enumerate(led.world):
            self.assertEqual(earned[state],
                             moves.earned(led.ladder, ahead[state], later[state], value))
            together = one.paid_out()[state]
            self.assertEqual(together, moves.earned(led.ladder, led.first, later[state], value))
            self.assertLessEqual(worth(together),
                                 worth(moves.loss_at(led.ladder, led.first, value)))
            self.assertEqual(worth(together), sum(worth(one.earned(hand)[state])
                                                  for hand in range(len(led.views))))
        weights = [worth(own) for own, _ in led.world]
        for hand in range(len(led.views)):
            mean = sum(own * worth(part) for own, part in zip(weights, one.earned(hand)))
            self.assertEqual(worth(one.mean_of_hand(hand)), mean / sum(weights))

    def last_told(self, led):
        """Where the last deed is a telling: the MEAN of all together by the SHARE of PUBLIC."""
        weights = [worth(own) for own, _ in led.world]
        mean = sum(own * worth(part) for own, part in zip(weights, led.paid_out()))
        share = share_of(led.world, led.public())
        self.assertEqual(mean, worth(moves.earns(led.ladder, led.first, share)))
        return led

    def test_tellings_are_those_of_a_talk(self):
        maker = Maker(191)
        for _ in range(80):
            led = any_house(maker)
            talk = Talk(led.world, led.views)
            for _ in range(maker.between(1, 6)):
                hand = maker.below(len(led.views))
                led.tell(hand)
                self.assertEqual(led.reports(), talk.tell(hand))
                self.assertEqual(led.public(), talk.public())

    def test_36_states_of_60_figures(self):
        big = 10 ** 59
        world = tuple((pair_of(Fraction(big + at, big - 3 * at)),
                       pair_of(Fraction(big * (at % 7) - at, big + at))) for at in range(36))
        views = tuple(tuple(tuple(range(at, 36, step)) for at in range(step)) for step in (2, 3, 5, 7))
        ladder = tuple((pair_of(Fraction(big * at + 1, 2 * big)), whole(at + 1)) for at in range(10))
        led = House(world, views, ladder, pair_of(Fraction(big, 3 * big + 1)))
        for hand in (0, 1, 2, 3):
            earned = led.tell(hand)
            self.assertGreaterEqual(sum(worth(own) * worth(part)
                                        for (own, _), part in zip(world, earned)), 0)
        self.assertEqual(len(led.public()), 36)
        for state in (0, 17, 35):
            self.assertEqual(led.paid_out()[state],
                             moves.earned(ladder, led.first, led.reports()[state], world[state][1]))


if __name__ == "__main__":
    unittest.main()
