"""The classes of errors: their places, and what they are made with."""

import unittest

from forehouse import errors

GIVEN = ("Bet Blur Bounds Case Chances Claim Day Deals Decision Event Fair Forecaster Fraction "
         "Fractions Gain Goal Guesses Hand Holding Known Look Number Parts Payoff Points Prior "
         "Reward Row Run Said Share Side Stakes State Table Ties Times View Views").split()

FIELDS = {"BadWorld": ("part",), "BadPaper": ("part",), "BadScore": ("number",),
          "BadLadder": ("number",), "BadHouses": ("number",), "BadBook": ("number",),
          "BadTerm": ("path",), "BadWords": ("path",), "BadText": ("line", "word"),
          "NotWider": ("paper",), "SureGain": ("paper",)}
FIELDS.update({"Bad" + name: ("given",) for name in GIVEN})

APART = {"TooMany": (OverflowError, "most"), "Missing": (KeyError, "given"),
         "NothingLeft": (RuntimeError, "many")}


class ErrorsTest(unittest.TestCase):

    def test_each_stands_straight_under_fore_error(self):
        self.assertEqual(errors.ForeError.__bases__, (ValueError,))
        for name in FIELDS:
            self.assertEqual(getattr(errors, name).__bases__, (errors.ForeError,), name)

    def test_three_stand_apart(self):
        for name, (base, field) in APART.items():
            self.assertEqual(getattr(errors, name).__bases__, (base,))
            thing = [name]
            self.assertIs(getattr(getattr(errors, name)(thing), field), thing)

    def test_there_are_no_others(self):
        named = [name for name in vars(errors) if not name.startswith("__")]
        self.assertEqual(sorted(named), sorted([*FIELDS, *APART, "ForeError"]))

    def test_made_of_any_things_by_position(self):
        for name, fields in FIELDS.items():
            for thing in (None, [1], {}, "text", object(), (1, 1), 10 ** 5000, ValueError()):
                error = getattr(errors, name)(*[thing for _ in fields])
                for field in fields:
                    self.assertIs(getattr(error, field), thing)

    def test_the_two_fields_of_bad_text(self):
        error = errors.BadText(3, 4)
        self.assertEqual((error.line, error.word), (3, 4))

    def test_fore_error_is_made_as_a_value_error_is(self):
        self.assertEqual(errors.ForeError().args, ())
        self.assertEqual(errors.ForeError("a", 2).args, ("a", 2))
        self.assertEqual(str(errors.ForeError("a")), "a")

    def test_they_can_be_raised_and_caught(self):
        for name, fields in FIELDS.items():
            with self.assertRaises(errors.ForeError):
                raise getattr(errors, name)(*fields)
        for name in APART:
            with self.assertRaises(APART[name][0]) as caught:
                raise getattr(errors, name)(1)
            self.assertNotIsInstance(caught.exception, errors.ForeError)


if __name__ == "__main__":
    unittest.main()
