"""TERMS and their WORLDS; PLAIN SHARES; VIEW WORDS; TERMS told back."""

import unittest
from fractions import Fraction

from forehouse import retell, terms, viewwords
from forehouse.errors import BadShare, BadTerm, BadWords, BadWorld, NotWider, TooMany
from forehouse.rests import check_wider, is_wider
from forehouse.views import core, is_finer, join_of, mean_of, meet_of, share_of
from tests import wrongs
from tests.makers import (Maker, pair_of, rest, share_of_integers, whole, world_of_integers,
                          worth)
from tests.wrongs import ODD

WORLD = world_of_integers((1, 0), (2, 3), (3, 6))
STATES = ("states", WORLD)
ONE_STATE = ("states", world_of_integers((1, 0)))


def world_by_words(term):
    """The WORLD of a TERM, in Fractions, by the words of the document."""
    word = term[0]
    if word == "states":
        return [(worth(weight), worth(value)) for weight, value in term[1]]
    world = world_by_words(term[1])
    if word == "beside":
        return world + world_by_words(term[2])
    if word == "scaled":
        return [(weight * worth(term[2]), value * worth(term[3])) for weight, value in world]
    if word == "moved":
        return [(weight, value + worth(term[2])) for weight, value in world]
    if word == "pooled":
        weight = sum(world[state][0] for state in term[2])
        mean = sum(world[state][0] * world[state][1] for state in term[2]) / weight
        return [(own, mean if state in term[2] else value)
                for state, (own, value) in enumerate(world)]
    at = term[2]
    weight, value = world[at]
    if word == "split":
        parts = [worth(part) for part in term[3]]
        return world[:at] + [(weight * part / sum(parts), value) for part in parts] + world[at + 1:]
    low, high = worth(term[3]), worth(term[4])
    part = (value - low) / (high - low)
    return world[:at] + [(weight * (1 - part), low), (weight * part, high)] + world[at + 1:]


def in_words(many, term=STATES):
    """A TERM with so many words around another one."""
    for _ in range(many):
        term = ("moved", term, whole(1))
    return term


class TermsTest(unittest.TestCase):

    def told(self, term, *pairs):
        self.assertEqual(terms.world_of(term), world_of_integers(*pairs))
        self.assertIs(terms.need_term(term), term)

    def refuse(self, term, path):
        for call in (terms.need_term, terms.world_of, terms.kids_of):
            with self.assertRaises(BadTerm) as caught:
                call(term)
            self.assertEqual(caught.exception.path, path)

    def test_each_word_by_hand(self):
        self.told(STATES, (1, 0), (2, 3), (3, 6))
        self.told(("beside", STATES, ONE_STATE), (1, 0), (2, 3), (3, 6), (1, 0))
        self.told(("beside", ONE_STATE, STATES), (1, 0), (1, 0), (2, 3), (3, 6))
        self.told(("scaled", STATES, whole(2), whole(-3)), (2, 0), (4, -9), (6, -18))
        self.told(("scaled", STATES, whole(1), whole(0)), (1, 0), (2, 0), (3, 0))
        self.told(("moved", STATES, whole(-3)), (1, -3), (2, 0), (3, 3))
        self.told(("split", STATES, 2, (whole(1), whole(2))), (1, 0), (2, 3), (1, 6), (2, 6))
        self.told(("split", STATES, 1, ((1, 7), (1, 7))), (1, 0), (1, 3), (1, 3), (3, 6))
        # 3 times 6 is 1 times 0 and 2 times 9.
        self.told(("spread", STATES, 2, whole(0), whole(9)), (1, 0), (2, 3), (1, 0), (2, 9))
        self.told(("pooled", STATES, (0, 1)), (1, 2), (2, 2), (3, 6))
        self.told(("pooled", STATES, (0, 1, 2)), (1, 4), (2, 4), (3, 4))
        self.told(("pooled", STATES, (1,)), (1, 0), (2, 3), (3, 6))
        # From the inmost on.
        self.told(("moved", ("scaled", STATES, whole(1), whole(2)), whole(1)), (1, 1), (2, 7), (3, 13))
        self.told(("scaled", ("moved", STATES, whole(1)), whole(1), whole(2)), (1, 2), (2, 8), (3, 14))

    def test_kids(self):
        self.assertEqual(terms.kids_of(STATES), ())
        self.assertEqual(terms.kids_of(("beside", ONE_STATE, STATES)), (ONE_STATE, STATES))
        inner = ("split", STATES, 1, ((1, 7), (1, 7)))
        for term in (("scaled", inner, whole(2), whole(-3)), ("moved", inner, whole(1)),
                     ("split", inner, 3, (whole(1),) * 6), ("pooled", inner, (0, 3)),
                     ("spread", inner, 0, whole(-1), whole(1))):
            self.assertEqual(terms.kids_of(term), (inner,))

    def test_wrong_as_a_whole(self):
        for thing in ODD + wrongs.TERMS:
            self.refuse(thing, ())
            self.refuse(("moved", thing, whole(1)), (1,))
            self.refuse(("beside", STATES, ("moved", thing, whole(1))), (2, 1))
            self.refuse(("beside", ("beside", STATES, thing), None), (1, 2))
            # The whole ahead of what stands in it.
            self.refuse(("moved", thing, None), ())
            self.refuse(("scaled", thing, whole(0), whole(1)), ())

    def test_forms_ahead_of_worlds(self):
        none = ("pooled", STATES, (3,))
        self.refuse(none, ())
        self.refuse(("moved", none, whole(1)), (1,))
        # What stands in it ahead of the whole, but only behind all that is wrong by its form.
        self.refuse(("spread", none, 0, whole(1), whole(2)), (1,))
        self.refuse(("beside", none, none), (1,))
        self.refuse(("beside", ("moved", none, whole(1)), ("moved", none, 1)), (2,))
        self.refuse(("beside", ("moved", none, whole(1)), ("pooled", None, (0,))), (2, 1))
        self.refuse(("pooled", ("beside", none, STATES), (35,)), (1, 1))

    def test_numbers_that_are_not_there(self):
        for at in (3, 35):
            self.refuse(("split", STATES, at, (whole(1), whole(1))), ())
            self.refuse(("spread", STATES, at, whole(-99), whole(99)), ())
            self.refuse(("pooled", STATES, (0, at)), ())
            self.refuse(("moved", ("pooled", STATES, (at,)), whole(1)), (1,))
        # A "split" makes one more.
        self.told(("pooled", ("split", STATES, 2, (whole(1), whole(2))), (2, 3)),
                  (1, 0), (2, 3), (1, 6), (2, 6))

    def test_low_and_high_around_the_worth(self):
        for low, high in ((6, 9), (0, 6), (7, 9), (0, 5), (9, 0), (6, 6)):
            self.refuse(("spread", STATES, 2, whole(low), whole(high)), ())
        good = ("spread", STATES, 2, (59, 10), (61, 10))
        self.assertEqual(terms.world_of(good)[2:], (((3, 2), (59, 10)), ((3, 2), (61, 10))))

    def test_36_states_and_37(self):
        eighteen = ("states", world_of_integers(*[(1, at) for at in range(18)]))
        full = ("beside", eighteen, eighteen)
        self.assertEqual(len(terms.world_of(full)), 36)
        self.told(("pooled", ("scaled", full, whole(1), whole(0)), (0, 35)), *[(1, 0)] * 36)
        self.refuse(("beside", full, ONE_STATE), ())
        self.refuse(("beside", ONE_STATE, full), ())
        self.refuse(("split", full, 0, (whole(1), whole(1))), ())
        self.refuse(("moved", ("spread", full, 5, whole(4), whole(6)), whole(1)), (1,))
        almost = ("beside", eighteen, ("states", eighteen[1][1:]))
        self.assertEqual(len(terms.world_of(("spread", almost, 5, whole(4), whole(6)))), 36)
        self.refuse(("split", almost, 0, (whole(1),) * 3), ())

    def test_40_words_and_41(self):
        self.told(in_words(39, ONE_STATE), (1, 39))
        self.refuse(in_words(40, ONE_STATE), ())
        # The 41st one, whatever it is, and wherever it stands.
        self.refuse(in_words(40, None), ())
        self.refuse(in_words(39, None), (1,) * 39)
        self.refuse(("beside", in_words(38, ONE_STATE), None), ())
        self.refuse(("beside", in_words(37, ONE_STATE), None), (2,))
        self.told(("beside", in_words(37, ONE_STATE), ONE_STATE), (1, 37), (1, 0))
        # Wrong ahead of it.
        self.refuse(("beside", ("moved", in_words(40, ONE_STATE), 1), None), (1,))
        one = ("beside", ONE_STATE, ONE_STATE)
        for _ in range(3):
            one = ("beside", one, one)
        self.assertEqual(len(terms.world_of(one)), 16)
        self.refuse(("beside", one, one), ())

    def test_against_the_words(self):
        maker = Maker(180)
        words = {}
        for _ in range(300):
            term, many = maker.term(8)
            wanted = tuple((pair_of(weight), pair_of(value)) for weight, value in world_by_words(term))
            self.assertEqual(terms.world_of(term), wanted)
            self.assertEqual(len(wanted), many)
            words[term[0]] = words.get(term[0], 0) + 1
            for kid in terms.kids_of(term):
                terms.need_term(kid)
        self.assertEqual(len(words), 7)

    def test_plain_shares(self):
        self.assertEqual(terms.plain_share(WORLD), share_of_integers((0, 1), (3, 2), (6, 3)))
        twice = world_of_integers((1, 2), (3, 2), (1, 0))
        self.assertEqual(terms.plain_share(twice), share_of_integers((0, 1), (2, 4)))
        six = world_of_integers(*[(1, at % 6) for at in range(36)])
        self.assertEqual(len(terms.plain_share(six)), 6)
        with self.assertRaises(TooMany) as caught:
            terms.plain_share(world_of_integers(*[(1, at) for at in range(7)]))
        self.assertEqual(caught.exception.most, 6)
        for thing in ODD + wrongs.WORLDS:
            self.assertRaises(BadWorld, terms.plain_share, thing)

    def test_facts_of_plain_shares(self):
        maker = Maker(181)
        for _ in range(150):
            world = maker.world(4)
            inner = ("states", world)
            share = terms.plain_share(world)
            at = maker.below(len(world))
            value = worth(world[at][1])
            low = pair_of(value - worth(maker.weight()))
            high = pair_of(value + worth(maker.weight()))
            wide = terms.plain_share(terms.world_of(("spread", inner, at, low, high)))
            for mark in [worth(maker.fraction()) for _ in range(5)] + [worth(low), worth(high), value]:
                if worth(low) < mark < worth(high):
                    self.assertGreater(rest(wide, mark), rest(share, mark))
                else:
                    self.assertEqual(rest(wide, mark), rest(share, mark))
            self.assertTrue(is_wider(share, wide))
            split = ("split", inner, at, (maker.weight(), maker.weight()))
            self.assertEqual(terms.plain_share(terms.world_of(split)), share)
            pooled = ("pooled", inner, maker.lot(len(world)) or (at,))
            self.assertTrue(is_wider(terms.plain_share(terms.world_of(pooled)), share))

    def test_long_terms_of_60_figures(self):
        big = 10 ** 59
        world = tuple((pair_of(Fraction(big + at, big - 7 * at)), pair_of(Fraction(big * at + 1, big + 3)))
                      for at in range(36))
        term = ("states", world)
        for at in range(39):
            term = ("pooled", term, tuple(range(at % 18, at % 18 + 18)))
        told = terms.world_of(term)
        self.assertEqual(len(told), 36)
        self.assertEqual(told[2][1], told[19][1])
        # To be pooled keeps the mean of all.
        every = tuple(range(36))
        self.assertEqual(mean_of(told, every), mean_of(world, every))
        term = ("states", world)
        for at in range(39):
            term = ("scaled", term, pair_of(Fraction(big + at, big - 1)), pair_of(Fraction(-big, big + at)))
        self.assertEqual(len(terms.world_of(term)), 36)


class RetellTest(unittest.TestCase):

    def words_of(self, term):
        """The words from the outmost to the inmost one, each around one TERM."""
        words = [term[0]]
        while term[0] != "states":
            term = term[1]
            words.append(term[0])
        return words, term

    def test_by_hand(self):
        narrow = share_of_integers((2, 3))
        wide = share_of_integers((0, 1), (3, 2))
        self.assertEqual(retell.spreads_of(narrow, wide), (
            "spread", ("states", world_of_integers((3, 2))), 0, whole(0), whole(3)))
        self.assertEqual(retell.spreads_of(wide, wide), ("states", world_of_integers((1, 0), (2, 3))))
        self.assertEqual(retell.pools_of(narrow, wide), (
            "pooled", ("states", world_of_integers((1, 0), (2, 3))), (0, 1)))
        self.assertEqual(retell.pools_of(wide, wide), ("states", world_of_integers((1, 0), (2, 3))))

    def test_facts(self):
        maker = Maker(182)
        split = 0
        for _ in range(200):
            one, other = maker.two(6)
            if maker.below(4) == 0:
                one, other = other, maker.wider(other)
            spread, pooled = retell.spreads_of(one, other), retell.pools_of(one, other)
            self.assertEqual(terms.plain_share(terms.world_of(spread)), other)
            self.assertEqual(terms.plain_share(terms.world_of(pooled)), one)
            words, inner = self.words_of(spread)
            self.assertEqual(set(words[:-1]) | {"spread"}, {"spread"})
            self.assertEqual(inner[1], tuple((weight, number) for number, weight in one))
            words, inner = self.words_of(pooled)
            many = words.count("pooled")
            self.assertEqual(set(words[:many]) | {"pooled"}, {"pooled"})
            self.assertEqual(set(words[many:-1]) | {"split"}, {"split"})
            self.assertEqual(inner[1], tuple((weight, number) for number, weight in other))
            split += len(words) - 1 - many > 0
        self.assertGreater(split, 20)

    def test_not_wider(self):
        maker = Maker(183)
        seen = {"total": 0, "moment": 0, "mark": 0}
        for _ in range(200):
            one, other = maker.share(3), maker.share(3)
            if maker.below(2):
                other, one = maker.two(3)
            elif maker.below(2):
                other = maker.alike(one)
            if is_wider(one, other):
                continue
            for call in (retell.spreads_of, retell.pools_of):
                with self.assertRaises(NotWider) as caught:
                    call(one, other)
                paper = caught.exception.paper
                self.assertEqual(check_wider(one, other, paper), paper[0])
                seen[paper[0]] += 1
        self.assertGreater(min(seen.values()), 10)
        for call in (retell.spreads_of, retell.pools_of):
            self.assertRaises(BadShare, call, share_of_integers((0, 1)), ())

    def test_six_by_six_with_60_figures(self):
        big = 10 ** 59
        one = tuple((pair_of(Fraction(big * at - at, big + 1)), pair_of(Fraction(big + at, 3 * big)))
                    for at in range(6))
        table = {-5: Fraction(0), 9: Fraction(0)}
        for number, weight in one:
            share = (worth(number) + 5) / 14
            table[-5] += worth(weight) * (1 - share)
            table[9] += worth(weight) * share
        other = tuple((whole(number), pair_of(table[number])) for number in sorted(table))
        self.assertEqual(terms.plain_share(terms.world_of(retell.spreads_of(one, other))), other)
        self.assertEqual(terms.plain_share(terms.world_of(retell.pools_of(one, other))), one)


class ViewWordsTest(unittest.TestCase):

    def refuse(self, words, path, world=WORLD):
        with self.assertRaises(BadWords) as caught:
            viewwords.view_of(world, words)
        self.assertEqual(caught.exception.path, path)

    def test_each_word_by_hand(self):
        world = world_of_integers((1, 1), (2, 3), (3, 1), (4, 5), (6, 3))
        halves, others = ((0, 1), (2, 3, 4)), ((0, 2), (1, 3), (4,))
        for words, view in (
                (("none",), ((0, 1, 2, 3, 4),)), (("each",), ((0,), (1,), (2,), (3,), (4,))),
                (("worths",), ((0, 2), (1, 4), (3,))), (("cells", halves), halves),
                (("marks", (whole(2),)), ((0, 2), (1, 3, 4))),
                # A WORTH at the MARK has it behind it.
                (("marks", (whole(3),)), ((0, 2), (1, 3, 4))),
                (("marks", ((31, 10),)), ((0, 1, 2, 4), (3,))),
                (("marks", (whole(-9), whole(-8), whole(-7), whole(-6), whole(3))),
                 ((0, 2), (1, 3, 4))),
                (("join", ("cells", halves), ("cells", others)), ((0,), (1,), (2,), (3,), (4,))),
                (("meet", ("cells", halves), ("cells", others)), ((0, 1, 2, 3, 4),)),
                (("join", ("cells", halves), ("worths",)), ((0,), (1,), (2,), (3,), (4,))),
                (("core", ("each",)), ((0, 2), (1, 4), (3,)))):
            self.assertEqual(viewwords.view_of(world, words), view)

    def test_the_core(self):
        world = world_of_integers((1, 0), (1, 2), (1, 1), (1, 4))
        self.assertEqual(viewwords.view_of(world, ("core", ("cells", ((0, 1), (2,), (3,))))),
                         ((0, 1, 2), (3,)))

    def test_wrong_ones(self):
        for thing in ODD + wrongs.VIEW_WORDS:
            self.refuse(thing, ())
            self.refuse(("core", thing), (1,))
            self.refuse(("join", ("each",), thing), (2,))
            self.refuse(("meet", ("core", thing), None), (1, 1))
        self.refuse(("marks", (whole(0), 1), ("each",)), ())
        self.assertRaises(BadWorld, viewwords.view_of, (), None)

    def test_5_marks_and_6(self):
        five = tuple(whole(at) for at in range(5))
        self.assertEqual(viewwords.view_of(WORLD, ("marks", five)), ((0,), (1,), (2,)))
        self.refuse(("marks", five + (whole(5),)), ())

    def test_8_within_one_another_and_9(self):
        words = ("each",)
        for _ in range(7):
            words = ("core", words)
        self.assertEqual(viewwords.view_of(WORLD, words), ((0,), (1,), (2,)))
        self.refuse(("core", words), ())
        self.refuse(("join", ("each",), ("core", ("core", words))), ())
        # Whatever it is, and ahead of what is wrong farther on; but not of what is ahead of it.
        deep = None
        for _ in range(8):
            deep = ("core", deep)
        self.refuse(deep, ())
        self.refuse(deep[1], (1,) * 7)
        self.refuse(("join", deep, None), ())
        self.refuse(("join", None, deep), (1,))

    def test_20_words_and_21(self):
        # 1, 3, 7, 15 words; and four more around an end.
        words = ("each",)
        for _ in range(3):
            words = ("join", words, words)
        more = ("core", ("core", ("core", ("none",))))
        self.assertEqual(viewwords.view_of(WORLD, ("meet", words, more)), ((0, 1, 2),))
        self.refuse(("meet", words, ("core", more)), ())
        self.refuse(("meet", words, ("core", ("core", ("core", ("core", None))))), ())
        self.refuse(("meet", words, ("core", ("core", ("core", None)))), (2, 1, 1, 1))
        self.refuse(("meet", words, ("join", more, None)), ())

    def test_against_the_words(self):
        maker = Maker(184)
        kinds = {}
        for _ in range(300):
            world = maker.world(6)
            words = maker.view_words(len(world))
            view = viewwords.view_of(world, words)
            kinds[words[0]] = kinds.get(words[0], 0) + 1
            if words[0] in ("join", "meet"):
                views = tuple(viewwords.view_of(world, inner) for inner in words[1:])
                call = join_of if words[0] == "join" else meet_of
                self.assertEqual(view, call(world, views))
            if words[0] == "core":
                self.assertEqual(view, core(world, viewwords.view_of(world, words[1])))
            if words[0] in ("marks", "worths"):
                marks = [worth(mark) for mark in words[1]] if words[0] == "marks" else None
                keys = [worth(value) if marks is None else
                        sum(mark <= worth(value) for mark in marks) for _, value in world]
                for cell in view:
                    self.assertEqual(len({keys[state] for state in cell}), 1)
                self.assertEqual(len(view), len(set(keys)))
            # It has the SHARE of the CORE.
            self.assertEqual(share_of(world, viewwords.view_of(world, ("core", words))),
                             share_of(world, view))
            self.assertTrue(is_finer(world, view, viewwords.view_of(world, ("core", words))))
        self.assertEqual(len(kinds), 8)


if __name__ == "__main__":
    unittest.main()
