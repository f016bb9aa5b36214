"""Of what kind a thing is, asked so that any thing at all may be asked about."""

from math import gcd


def is_integer(thing):
    # True and False are integers to Python, but not here.
    return isinstance(thing, int) and not isinstance(thing, bool)


def is_place(thing, many):
    """Whether it is the number of one of so many things."""
    return is_integer(thing) and 0 <= thing < many


def is_row(thing, many):
    """Whether it is a tuple of so many things."""
    return isinstance(thing, tuple) and len(thing) == many


def is_row_within(thing, least, most):
    """Whether it is a tuple of at least and at most so many things."""
    return isinstance(thing, tuple) and least <= len(thing) <= most


def is_called(thing, word, many):
    """Whether it is a tuple of so many things, with this word first."""
    # An object of a foreign class may claim to be equal to every word.
    return is_row(thing, many) and isinstance(thing[0], str) and thing[0] == word


def word_of(thing, forms):
    """The first word of what has one of the forms: pairs of a word and a number of things."""
    for word, many in forms:
        if is_called(thing, word, many):
            return word
    return None


def is_fraction(thing):
    # Asked more often than all else, so it calls nothing of its own.
    if not isinstance(thing, tuple) or len(thing) != 2:
        return False
    top, bottom = thing
    if not isinstance(top, int) or not isinstance(bottom, int):
        return False
    if isinstance(top, bool) or isinstance(bottom, bool):
        return False
    return bottom > 0 and (bottom == 1 or gcd(top, bottom) == 1)


def is_weight(thing):
    return is_fraction(thing) and thing[0] > 0


def is_price(thing):
    """Whether it is a FRACTION from nought on."""
    return is_fraction(thing) and thing[0] >= 0


def are_fractions(thing, many):
    """Whether it is a tuple of so many FRACTIONS."""
    return is_row(thing, many) and all([is_fraction(part) for part in thing])


def is_same(thing, told):
    """Whether a thing of any kind is just this: integers, or tuples of such."""
    if isinstance(told, tuple):
        if not is_row(thing, len(told)):
            return False
        return all([is_same(part, other) for part, other in zip(thing, told)])
    return is_integer(thing) and thing == told


def copied(thing):
    """A copy in which tuples and integers are plain ones, whatever was passed."""
    if isinstance(thing, tuple):
        # Integers, of which there are most, are taken at once, without a call for each.
        return tuple([int(part) if isinstance(part, int) and not isinstance(part, bool)
                      else copied(part) for part in thing])
    return int(thing) if is_integer(thing) else thing
