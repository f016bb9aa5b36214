"""SHEETS: a WORLD, two VIEWS of it, and what is said of them."""

from forehouse.cells import forecasts_by, is_finer_than, lies_within, met, share_by
from forehouse.exact import made
from forehouse.readers import lines_of
from forehouse.relation import rest_of, why_not_wider
from forehouse.shares import MOST_PAIRS
from forehouse.terms import sure_term
from forehouse.texts import term_in, words_in
from forehouse.viewwords import sure_words, view_by
from forehouse.worlds import is_lot

# The words of SAYINGS, those with an EVENT last.
SAYINGS = ("states", "cells", "together", "forecast", "finer", "wider", "rest", "knows", "common")


def next_worth(line):
    """What a word for a FRACTION is worth."""
    top, bottom = line.next_pair()
    return made(top, bottom)


def next_event(line):
    """All integers that are left in a line."""
    event = []
    while line.has_more():
        event.append(line.next_integer())
    return tuple(event)


def said_in(line):
    """The word and the things of a SAYING."""
    word = line.next_of(SAYINGS)
    things = ()
    if word in ("states", "cells"):
        things = (line.next_number(),)
    elif word == "together":
        things = (line.next_number(), line.next_number())
    elif word == "forecast":
        things = (line.next_number(), next_worth(line))
    elif word == "rest":
        things = (next_worth(line), next_worth(line))
    elif word in ("knows", "common"):
        things = (line.next_number(), next_event(line))
    line.finish()
    return (word, things)


class Sheet:
    """What SAYINGS speak of: a WORLD, and the one and the other VIEW of it."""

    def __init__(self, world, view, other):
        self.many = len(world)
        self.view = view
        self.other = other
        self.cells = {state: cell for cell in view for state in cell}
        self.met_cells = {state: cell for cell in met((view, other), len(world)) for state in cell}
        self.told = forecasts_by(world, view)
        self.share = share_by(world, view)
        self.far_share = share_by(world, other)

    def is_there(self, state):
        return state < self.many

    def is_together(self, state, other):
        if not self.is_there(state) or not self.is_there(other):
            return False
        return other in self.cells[state]

    def is_wider(self):
        """Whether the SHARE of the one is WIDER than that of the other."""
        if len(self.share) > MOST_PAIRS or len(self.far_share) > MOST_PAIRS:
            return False
        return why_not_wider(self.far_share, self.share) is None

    def has_rest(self, mark, rest):
        return len(self.share) <= MOST_PAIRS and rest_of(self.share, mark) == rest

    def is_known(self, cells, state, event):
        """Whether the one of these CELLS that has the STATE lies within an EVENT."""
        if not self.is_there(state) or not is_lot(event, self.many):
            return False
        return lies_within(cells[state], event)

    def is_so(self, word, things):
        """Whether a SAYING is so."""
        if word == "states":
            return things[0] == self.many
        if word == "cells":
            return things[0] == len(self.view)
        if word == "together":
            return self.is_together(things[0], things[1])
        if word == "forecast":
            return self.is_there(things[0]) and self.told[things[0]] == things[1]
        if word == "finer":
            return is_finer_than(self.view, self.other)
        if word == "wider":
            return self.is_wider()
        if word == "rest":
            return self.has_rest(things[0], things[1])
        cells = self.cells if word == "knows" else self.met_cells
        return self.is_known(cells, things[0], things[1])


def judged(text):
    lines = lines_of(text)
    term = term_in(lines, 0)
    words = words_in(lines, 1)
    others = words_in(lines, 2)
    sayings = [said_in(line) for line in lines[3:]]
    world = sure_term(term)[1]
    view = view_by(world, sure_words(world, words))
    other = view_by(world, sure_words(world, others))
    sheet = Sheet(world, view, other)
    return tuple([sheet.is_so(word, things) for word, things in sayings])
