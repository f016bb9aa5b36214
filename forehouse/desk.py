"""A desk: a HOUSE that is led by lines of words."""

from forehouse.errors import BadFraction, ForeError
from forehouse.house import House
from forehouse.kinds import is_fraction
from forehouse.ladders import MOST_RUNGS, sure_ladder
from forehouse.readers import Line, line_numbered, lines_of, need_no_more
from forehouse.terms import sure_term
from forehouse.texts import fraction_text, fractions_text, term_in, words_in
from forehouse.viewwords import sure_words, view_by
from forehouse.worlds import MOST_VIEWS

# The words of lines with the number of a hand, and of those without.
HAND_WORDS = ("tell", "say", "next", "earned", "mean")
WORDS = ("tell", "say", "next", "earned", "mean", "reports", "paid", "cells", "deeds", "undo")


def many_hands(lines):
    """How many hands there are, as the second line tells."""
    line = line_numbered(lines, 1)
    many = line.next_many(1, MOST_VIEWS)
    line.finish()
    return many


def offers_in(line):
    """FIRST, and the pairs of a LADDER, by their form."""
    first = line.next_pair()
    rungs = []
    while line.has_more() and len(rungs) < MOST_RUNGS:
        rungs.append((line.next_pair(), line.next_pair()))
    line.finish()
    return (first, tuple(rungs))


def read_house(text):
    """The HOUSE of a desk."""
    lines = lines_of(text)
    term = term_in(lines, 0)
    many = many_hands(lines)
    hands = [words_in(lines, 2 + hand) for hand in range(many)]
    first, ladder = offers_in(line_numbered(lines, 2 + many))
    need_no_more(lines, 3 + many)
    world = sure_term(term)[1]
    views = tuple([view_by(world, sure_words(world, words)) for words in hands])
    if not is_fraction(first):
        raise BadFraction(first)
    return House(world, views, sure_ladder(ladder), first)


def said_in(line):
    """All FRACTIONS that are left in a line."""
    said = []
    while line.has_more():
        said.append(line.next_pair())
    return tuple(said)


def hand_answer(house, word, line):
    """The answer to a line with the number of a hand."""
    number = line.next_number()
    if word == "say":
        house.say(number, said_in(line))
        return "done"
    line.finish()
    if word == "tell":
        house.tell(number)
        return fractions_text(house.reports())
    if word == "next":
        return fractions_text(house.told_next(number))
    if word == "earned":
        return fractions_text(house.earned(number))
    return fraction_text(house.mean_of_hand(number))


def taken_back(house):
    """Takes the last deed back, if there is one, and tells whether there was."""
    if len(house) == 0:
        return "nothing"
    house.undo()
    return "done"


def answer(house, line):
    """The answer to a line."""
    word = line.next_of(WORDS)
    if word in HAND_WORDS:
        return hand_answer(house, word, line)
    line.finish()
    if word == "reports":
        return fractions_text(house.reports())
    if word == "paid":
        return fractions_text(house.paid_out())
    if word == "cells":
        return str(len(house.public()))
    if word == "deeds":
        return str(len(house))
    return taken_back(house)


class Desk:
    """A desk that is led."""

    def __init__(self, text):
        self._house = read_house(text)

    @property
    def house(self):
        return self._house

    def say(self, line):
        if not isinstance(line, str):
            return "no"
        try:
            return answer(self._house, Line(0, line))
        except ForeError:
            return "no"
