"""TERMS: WORLDS made by words of other ones."""

from forehouse.cells import mean_in, share_by, worths
from forehouse.errors import BadTerm, TooMany
from forehouse.exact import added, added_up, divided, is_strictly_between, multiplied, taken
from forehouse.kinds import copied, is_fraction, is_place, is_row_within, is_weight, word_of
from forehouse.shares import MOST_PAIRS
from forehouse.worlds import MOST_STATES, is_cell, is_world, sure_world

# Each word, and how many things its tuple has.
TERM_FORMS = (("states", 2), ("beside", 3), ("scaled", 4), ("moved", 3), ("split", 4), ("spread", 5),
         ("pooled", 3))
MOST_TERMS = 40
LEAST_PARTS = 2
MOST_PARTS = 6


def kid_places(word):
    """At which places of its tuple the TERMS of a word stand."""
    if word == "states":
        return ()
    return (1, 2) if word == "beside" else (1,)


def are_parts(thing):
    """Whether any thing is PARTS."""
    if not is_row_within(thing, LEAST_PARTS, MOST_PARTS):
        return False
    return all([is_weight(part) for part in thing])


def has_own_things(word, thing):
    """Whether all but the TERMS in a tuple is as its word wants it, whatever the WORLDS are."""
    if word == "states":
        return is_world(thing[1])
    if word == "scaled":
        return is_weight(thing[2]) and is_fraction(thing[3])
    if word == "moved":
        return is_fraction(thing[2])
    if word == "split":
        return is_place(thing[2], MOST_STATES) and are_parts(thing[3])
    if word == "spread":
        return is_place(thing[2], MOST_STATES) and is_fraction(thing[3]) and is_fraction(thing[4])
    return word == "beside" or is_cell(thing[2], MOST_STATES)


def plain_term(thing, path, many):
    """A plain copy of a TERM by its form, so many words being ahead of it, and how many then are."""
    if many == MOST_TERMS:
        raise BadTerm(())
    word = word_of(thing, TERM_FORMS)
    if word is None or not has_own_things(word, thing):
        raise BadTerm(path)
    many = many + 1
    kids = []
    for at in kid_places(word):
        kid, many = plain_term(thing[at], path + (at,), many)
        kids.append(kid)
    return ((word,) + tuple(kids) + copied(thing[1 + len(kids):]), many)


def split_state(world, at, parts):
    """The WORLD with as many STATES in the place of one as there are PARTS."""
    weight, worth = world[at]
    share = divided(weight, added_up(parts))
    return world[:at] + tuple([(multiplied(part, share), worth) for part in parts]) + world[at + 1:]


def spread_state(world, at, low, high):
    """The WORLD with two STATES in the place of one, or None if they are not around it."""
    weight, worth = world[at]
    if not is_strictly_between(low, worth, high):
        return None
    share = divided(weight, taken(high, low))
    pair = ((multiplied(share, taken(high, worth)), low),
            (multiplied(share, taken(worth, low)), high))
    return world[:at] + pair + world[at + 1:]


def pooled_states(world, cell):
    """The WORLD in which all STATES of a CELL have its mean."""
    mean = mean_in(world, cell, worths(world))
    return tuple([(weight, mean if state in cell else worth)
                  for state, (weight, worth) in enumerate(world)])


def made_world(term, worlds):
    """The WORLD of a TERM, by those of its TERMS, or None if it has none."""
    word = term[0]
    if word == "states":
        return term[1]
    world = worlds[0]
    if word == "beside":
        return world + worlds[1]
    if word == "scaled":
        return tuple([(multiplied(weight, term[2]), multiplied(worth, term[3]))
                      for weight, worth in world])
    if word == "moved":
        return tuple([(weight, added(worth, term[2])) for weight, worth in world])
    last = term[2][-1] if word == "pooled" else term[2]
    if last >= len(world):
        return None
    if word == "split":
        return split_state(world, last, term[3])
    if word == "spread":
        return spread_state(world, last, term[3], term[4])
    return pooled_states(world, term[2])


def world_by(term, path):
    """The WORLD of what is a TERM by its form, and stands there."""
    worlds = [world_by(term[at], path + (at,)) for at in kid_places(term[0])]
    world = made_world(term, worlds)
    if world is None or len(world) > MOST_STATES:
        raise BadTerm(path)
    return world


def sure_term(thing):
    """A plain copy of a TERM, and its WORLD."""
    term = plain_term(thing, (), 0)[0]
    return (term, world_by(term, ()))


def plain_pairs(world):
    """The pairs of the PLAIN SHARE of a WORLD, however many there are."""
    return share_by(world, tuple([(state,) for state in range(len(world))]))


def need_term(thing):
    sure_term(thing)
    return thing


def world_of(term):
    return sure_term(term)[1]


def plain_share(world):
    share = plain_pairs(sure_world(world))
    if len(share) > MOST_PAIRS:
        raise TooMany(MOST_PAIRS)
    return share


def kids_of(term):
    term = sure_term(term)[0]
    return tuple([term[at] for at in kid_places(term[0])])
