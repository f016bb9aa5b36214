"""VIEW WORDS: VIEWS of a WORLD made by words."""

from forehouse.cells import forecasts_by, grouped, joined, met, whole, worths
from forehouse.errors import BadWords
from forehouse.exact import do_ascend, is_under
from forehouse.kinds import copied, is_fraction, is_row_within, word_of
from forehouse.worlds import is_view, sure_world

# Each word, and how many things its tuple has.
VIEW_FORMS = (("none", 1), ("each", 1), ("worths", 1), ("marks", 2), ("cells", 2), ("join", 3),
         ("meet", 3), ("core", 2))
MOST_VIEW_WORDS = 20
MOST_WITHIN = 8
MOST_MARKS = 5


def places_within(word):
    """At which places of its tuple the VIEW WORDS of a word stand."""
    if word in ("join", "meet"):
        return (1, 2)
    return (1,) if word == "core" else ()


def are_marks(thing):
    """Whether any thing is MARKS."""
    if not is_row_within(thing, 1, MOST_MARKS) or not all([is_fraction(part) for part in thing]):
        return False
    return do_ascend(thing)


def has_own_things(world, word, thing):
    """Whether all but the VIEW WORDS in a tuple is as its word wants it."""
    if word == "marks":
        return are_marks(thing[1])
    return word != "cells" or is_view(thing[1], len(world))


def plain_words(world, thing, path, many):
    """A plain copy of VIEW WORDS, so many words being ahead of them, and how many then are."""
    if many == MOST_VIEW_WORDS or len(path) == MOST_WITHIN:
        raise BadWords(())
    word = word_of(thing, VIEW_FORMS)
    if word is None or not has_own_things(world, word, thing):
        raise BadWords(path)
    many = many + 1
    kids = []
    for at in places_within(word):
        kid, many = plain_words(world, thing[at], path + (at,), many)
        kids.append(kid)
    return ((word,) + tuple(kids) + copied(thing[1 + len(kids):]), many)


def sure_words(world, thing):
    """A plain copy of VIEW WORDS."""
    return plain_words(world, thing, (), 0)[0]


def many_passed(marks, worth):
    """How many MARKS are no greater."""
    return len([mark for mark in marks if not is_under(worth, mark)])


def view_by(world, words):
    """The VIEW that VIEW WORDS have."""
    word = words[0]
    if word == "none":
        return whole(len(world))
    if word == "each":
        return tuple([(state,) for state in range(len(world))])
    if word == "worths":
        return grouped(worths(world))
    if word == "marks":
        return grouped([many_passed(words[1], worth) for worth in worths(world)])
    if word == "cells":
        return words[1]
    views = [view_by(world, words[at]) for at in places_within(word)]
    if word == "join":
        return joined(views)
    if word == "meet":
        return met(views, len(world))
    return grouped(forecasts_by(world, views[0]))


def view_of(world, words):
    world = sure_world(world)
    return view_by(world, sure_words(world, words))
