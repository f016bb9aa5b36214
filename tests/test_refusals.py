"""Of every function: each wrong argument, two wrong ones at once, the same call twice."""

import copy
import inspect
import unittest

from forehouse import desk, errors, house, talks
from tests.calls import CALLS, KINDS, LADDER, LISTED, PAIRS, VIEWS, WORLD, wanted_fields
from tests.wrongs import ODD


def alike(first, second):
    """Whether two calls told the same; desks are so if their HOUSES are."""
    if isinstance(first, desk.Desk):
        return first.house == second.house
    return first == second


class RefusalsTest(unittest.TestCase):

    def refuse(self, call, at, thing, args):
        kind = call.kinds[at]
        wanted = getattr(errors, KINDS[kind][0])
        try:
            call.function(*args)
        except errors.ForeError as error:
            self.assertIs(type(error), wanted, (call.function, at, thing))
            fields = wanted_fields(kind, thing)
            self.assertEqual(sorted(vars(error)), sorted(fields), (call.function, at, thing))
            for name in fields:
                if name == "given":
                    self.assertIs(error.given, fields[name])
                else:
                    self.assertEqual(vars(error)[name], fields[name], (call.function, at, thing))
        else:
            self.fail((call.function, at, thing))

    def wrong(self, call, at):
        """What is wrong as this argument."""
        kind = call.kinds[at]
        if kind == "any":
            return ()
        things = ODD + KINDS[kind][1]
        if call.function in PAIRS and kind == "paper":
            return [thing for thing in things if not (isinstance(thing, tuple) and len(thing) == 2)]
        if call.function is talks.check_talk and kind == "paper":
            return [thing for thing in things if not (
                isinstance(thing, tuple) and all(isinstance(part, tuple) for part in thing))]
        return things

    def test_each_wrong_argument_is_told(self):
        for call in CALLS:
            for at in range(len(call.kinds)):
                for thing in self.wrong(call, at):
                    args = list(call.args)
                    args[at] = thing
                    self.refuse(call, at, thing, args)

    def test_of_two_wrong_ones_the_first_is_told(self):
        for call in CALLS:
            for at in range(len(call.kinds)):
                for later in range(at + 1, len(call.kinds)):
                    if call.kinds[at] == "any":
                        continue
                    for thing in self.wrong(call, at)[::3]:
                        args = list(call.args)
                        args[at] = thing
                        args[later] = None
                        self.refuse(call, at, thing, args)

    def test_the_same_call_twice_tells_the_same(self):
        for call in CALLS:
            before = copy.deepcopy(call.args)
            first = call.function(*call.args)
            second = call.function(*copy.deepcopy(call.args))
            self.assertTrue(alike(first, second), call.function)
            self.assertEqual(call.args, before)

    def test_the_same_wrong_call_raises_the_same(self):
        for call in CALLS:
            for at in range(len(call.kinds)):
                for thing in self.wrong(call, at):
                    if not isinstance(thing, (list, dict, set, tuple)):
                        continue
                    args = list(call.args)
                    args[at] = thing
                    before = repr(thing)
                    told = []
                    for _ in range(2):
                        with self.assertRaises(errors.ForeError) as caught:
                            call.function(*args)
                        told.append((type(caught.exception), repr(vars(caught.exception))))
                    self.assertEqual(told[0], told[1])
                    self.assertEqual(repr(thing), before)

    def test_results_are_plain(self):
        class Row(tuple):
            pass

        class Whole(int):
            pass

        class Word(str):
            pass

        def odd(thing):
            if isinstance(thing, tuple):
                return Row(odd(part) for part in thing)
            if isinstance(thing, int) and not isinstance(thing, bool):
                return Whole(thing)
            return Word(thing) if isinstance(thing, str) else thing

        def is_plain(thing):
            if type(thing) is tuple:
                return all(is_plain(part) for part in thing)
            return type(thing) in (int, str, bool, type(None), talks.Talk, house.House, desk.Desk)

        for call in CALLS:
            args = [odd(arg) for arg in call.args]
            told = call.function(*args)
            self.assertTrue(alike(told, call.function(*call.args)))
            if not call.function.__name__.startswith("need_"):
                self.assertTrue(is_plain(told), call.function)


class InterfaceTest(unittest.TestCase):

    def test_each_call_is_named_and_takes_what_is_listed(self):
        for call in CALLS:
            names = list(inspect.signature(call.function).parameters)
            self.assertEqual(names, call.names, call.function)

    def test_each_is_defined_in_its_own_file(self):
        asked = {call.function for call in CALLS}
        for module, names in LISTED.items():
            for name in names.split():
                thing = vars(module)[name]
                self.assertEqual(thing.__module__, module.__name__, name)
                self.assertTrue(thing in asked or name == "under", name)

    def methods(self, kind, wanted):
        """All methods of a class stand in itself, and take what is listed."""
        for name, names in wanted.items():
            method = vars(kind)[name]
            self.assertEqual(list(inspect.signature(method).parameters), names.split())

    def test_the_methods_of_house(self):
        self.methods(house.House, {
            "tell": "self number", "say": "self number said", "reports": "self", "public": "self",
            "earned": "self number", "mean_of_hand": "self number", "paid_out": "self",
            "told_next": "self number", "undo": "self many", "copy": "self", "trial": "self",
            "__len__": "self", "__eq__": "self other", "__init__": "self world views ladder first"})
        for name in ("world", "views", "ladder", "first"):
            self.assertIsInstance(vars(house.House)[name], property)
        self.assertEqual(list(inspect.signature(house.under).parameters), ["manager", "deed"])
        led = house.House(WORLD, VIEWS, LADDER, (1, 2))
        led.tell(0)
        led.undo(many=1)
        self.assertEqual(len(led), 0)

    def test_the_methods_of_desk(self):
        self.methods(desk.Desk, {"say": "self line", "__init__": "self text"})
        self.assertIsInstance(vars(desk.Desk)["house"], property)

    def test_the_methods_of_talk(self):
        wanted = {"tell": "self number", "public": "self", "rests": "self", "heard": "self state",
                  "undo": "self many", "copy": "self", "trial": "self", "__len__": "self",
                  "__eq__": "self other", "__init__": "self world views"}
        self.methods(talks.Talk, wanted)
        for name in ("world", "views"):
            self.assertIsInstance(vars(talks.Talk)[name], property)
        self.assertEqual(list(inspect.signature(talks.under).parameters), ["manager", "deed"])
        talk = talks.Talk(WORLD, VIEWS)
        talk.tell(0)
        talk.undo(many=1)
        self.assertEqual(len(talk), 0)


if __name__ == "__main__":
    unittest.main()
