"""Texts of TERMS and of VIEW WORDS, written and read."""

from forehouse.readers import line_numbered, lines_of, need_no_more
from forehouse.terms import LEAST_PARTS, MOST_PARTS, MOST_TERMS, TERM_FORMS, kid_places, sure_term
from forehouse.viewwords import MOST_MARKS, MOST_VIEW_WORDS, VIEW_FORMS, places_within, sure_words
from forehouse.worlds import MOST_STATES, sure_world


def fraction_text(one):
    """The text of a FRACTION."""
    return str(one[0]) if one[1] == 1 else "/".join([str(one[0]), str(one[1])])


def fractions_text(some):
    """The texts of FRACTIONS, with single spaces between."""
    return " ".join([fraction_text(one) for one in some])


def listed(some):
    """How many FRACTIONS there are, and their texts."""
    return [str(len(some))] + [fraction_text(one) for one in some]


def listed_numbers(cell):
    return [str(len(cell))] + [str(state) for state in cell]


def own_texts(term):
    """The texts of what stands in a TERM beside its word and its TERMS."""
    word = term[0]
    if word == "states":
        pairs = [fraction_text(one) for state in term[1] for one in state]
        return [str(len(term[1]))] + pairs
    if word == "split":
        return [str(term[2])] + listed(term[3])
    if word == "spread":
        return [str(term[2]), fraction_text(term[3]), fraction_text(term[4])]
    if word == "pooled":
        return listed_numbers(term[2])
    return [] if word == "beside" else [fraction_text(one) for one in term[2:]]


def term_texts(term):
    out = [term[0]] + own_texts(term)
    for at in kid_places(term[0]):
        out = out + term_texts(term[at])
    return out


def own_view_texts(words):
    """The texts of what stands in VIEW WORDS beside their word and other VIEW WORDS."""
    if words[0] == "marks":
        return listed(words[1])
    if words[0] != "cells":
        return []
    numbers = [text for cell in words[1] for text in listed_numbers(cell)]
    return [str(len(words[1]))] + numbers


def words_texts(words):
    out = [words[0]] + own_view_texts(words)
    for at in places_within(words[0]):
        out = out + words_texts(words[at])
    return out


def next_pairs(line, least, most):
    """How many FRACTIONS there are, from least to most, and these."""
    return tuple([line.next_pair() for _ in range(line.next_many(least, most))])


def next_cell(line):
    """How many numbers of STATES there are, and these."""
    return tuple([line.next_number() for _ in range(line.next_many(1, MOST_STATES))])


def next_own(line, word):
    """What stands behind the word of a TERM, ahead of its TERMS."""
    if word == "states":
        many = line.next_many(1, MOST_STATES)
        return (tuple([(line.next_pair(), line.next_pair()) for _ in range(many)]),)
    if word == "scaled":
        return (line.next_pair(), line.next_pair())
    if word == "moved":
        return (line.next_pair(),)
    if word == "split":
        return (line.next_number(), next_pairs(line, LEAST_PARTS, MOST_PARTS))
    if word == "spread":
        return (line.next_number(), line.next_pair(), line.next_pair())
    return (next_cell(line),) if word == "pooled" else ()


def next_term(line, many):
    """What is a TERM by its form, so many words being ahead of it, and how many then are."""
    if many == MOST_TERMS:
        line.refuse()
    word = line.next_of([form[0] for form in TERM_FORMS])
    own = next_own(line, word)
    many = many + 1
    kids = []
    for _ in kid_places(word):
        kid, many = next_term(line, many)
        kids.append(kid)
    return ((word,) + tuple(kids) + own, many)


def next_own_view(line, word):
    """What stands behind the word of VIEW WORDS, ahead of those in them."""
    if word == "marks":
        return (next_pairs(line, 1, MOST_MARKS),)
    if word == "cells":
        return (tuple([next_cell(line) for _ in range(line.next_many(1, MOST_STATES))]),)
    return ()


def next_words(line, many):
    """What are VIEW WORDS by their form, likewise."""
    if many == MOST_VIEW_WORDS:
        line.refuse()
    word = line.next_of([form[0] for form in VIEW_FORMS])
    own = next_own_view(line, word)
    many = many + 1
    kids = []
    for _ in places_within(word):
        kid, many = next_words(line, many)
        kids.append(kid)
    return ((word,) + tuple(kids) + own, many)


def term_in(lines, number):
    """What is a TERM by its form, in the line with this number."""
    line = line_numbered(lines, number)
    term = next_term(line, 0)[0]
    line.finish()
    return term


def words_in(lines, number):
    """What are VIEW WORDS by their form, in the line with this number."""
    line = line_numbered(lines, number)
    words = next_words(line, 0)[0]
    line.finish()
    return words


def term_text(term):
    return " ".join(term_texts(sure_term(term)[0]))


def words_text(world, words):
    world = sure_world(world)
    return " ".join(words_texts(sure_words(world, words)))


def read_term(text):
    lines = lines_of(text)
    term = term_in(lines, 0)
    need_no_more(lines, 1)
    return sure_term(term)[0]


def read_words(world, text):
    world = sure_world(world)
    lines = lines_of(text)
    words = words_in(lines, 0)
    need_no_more(lines, 1)
    return sure_words(world, words)
