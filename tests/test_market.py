"""PAIR CLAIMS; GAINS in the market; BOOKS and HEDGES; what is told and reached."""

import unittest
from fractions import Fraction
from math import ceil, floor

from forehouse import books, bounds, holdings, known, market, neighbours, toldclaims
from forehouse.errors import (BadBook, BadClaim, BadFair, BadFraction, BadGain, BadHolding, BadPaper,
                              BadReward, BadShare, SureGain)
from forehouse.fairshares import day_table, fair_by
from forehouse.lefts import left_table, right_table
from forehouse.rests import check_wider, is_wider, wider_paper
from forehouse.rewards import bend_of
from forehouse.spans import can_go
from tests.makers import Maker, pair_of, rest, share_of_integers, whole, worth
from tests.test_known import ONE, PAIR, THREE, WIDE, cost, mean, pays
from tests.wrongs import (BOOKS, CLAIMS, FAIRS, FRACTIONS, HOLDINGS, KNOWNS, ODD, PAIR_CLAIMS,
                          SHARES)

# It goes from -1 to 2.
FAR_UP = (0, 0, 8, 0, 0, 0)
NOTHING = (((whole(0),) * 2, (whole(0),) * 3), (whole(0),) * 2)


def hedge_pays(some, book, hedge):
    """What a HEDGE PAYS by the words of the document."""
    out = pays(some, hedge[0])
    for (claim, _, _), bought, sold in zip(book, hedge[1], hedge[2]):
        out = [part + (worth(bought) - worth(sold)) * paid for part, paid in zip(out, claim)]
    return out


def hedge_cost(some, book, hedge):
    out = cost(some, hedge[0])
    for (_, bid, ask), bought, sold in zip(book, hedge[1], hedge[2]):
        out += worth(bought) * (ask or 0) - worth(sold) * (bid or 0)
    return out


def keeps(some, fair, book):
    means = [mean(some, fair, claim) for claim, _, _ in book]
    return all((bid is None or bid <= value) and (ask is None or value <= ask)
               for value, (_, bid, ask) in zip(means, book))


class NeighboursTest(unittest.TestCase):

    def test_by_hand(self):
        reward = ((0, 1, 2), (10, 20, 30))
        self.assertEqual(neighbours.claim_of(PAIR, (reward,)), (0, 1, 2, 10, 20, 30))
        self.assertEqual(neighbours.claim_of((ONE,), ()), (0, 0))
        both = (((5, 7),), reward)
        self.assertEqual(neighbours.claim_of(THREE, both), (5, 6, 7, 17, 27, 37))
        up = ((0, 0, 8), (0, 0, 0))
        self.assertEqual(neighbours.greatest_of(PAIR, (up,)), (1, 1))
        self.assertEqual(neighbours.least_of(PAIR, (up,)), (0, 1))
        self.assertEqual(neighbours.least_of((ONE,), ()), (0, 1))
        self.assertEqual(neighbours.greatest_of((ONE,), ()), (0, 1))
        self.assertEqual(neighbours.low_chain((ONE,)), (((whole(-1),), whole(4)), ((whole(1),), whole(4))))
        self.assertEqual(neighbours.high_chain((ONE,)), neighbours.low_chain((ONE,)))

    def test_wrong_ones(self):
        for call in (neighbours.claim_of, neighbours.least_of, neighbours.greatest_of):
            for thing in ODD + PAIR_CLAIMS:
                with self.assertRaises(BadReward) as caught:
                    call(PAIR, thing)
                self.assertIs(caught.exception.given, thing)
            self.assertRaises(BadReward, call, (ONE,), (((0,),),))

    def test_against_all_claims(self):
        maker = Maker(100)
        bent = 0
        for _ in range(100):
            some = maker.known()
            pairs = tuple(maker.reward(one, other) for one, other in zip(some, some[1:]))
            if maker.below(2):
                # Rewards that bend down: what is gone, times a line or a bow.
                pairs = tuple(self.bow(maker, one, other) for one, other in zip(some, some[1:]))
            claim = neighbours.claim_of(some, pairs)
            known.need_claim(some, claim)
            for row, paid in zip(known.rows_of(some), claim):
                wanted = 0
                for day, reward in enumerate(pairs):
                    at = [number for number, _ in some[day]].index(row[day])
                    to = [number for number, _ in some[day + 1]].index(row[day + 1])
                    wanted += reward[at][to]
                self.assertEqual(paid, wanted)
            low, high = neighbours.least_of(some, pairs), neighbours.greatest_of(some, pairs)
            self.assertEqual(low, bounds.least_mean(some, claim))
            self.assertEqual(high, bounds.greatest_mean(some, claim))
            if all(bend_of(one, other, reward) in ("down", "straight")
                   for one, other, reward in zip(some, some[1:], pairs)):
                bent += 1
                self.assertEqual(known.mean_by(some, neighbours.low_chain(some), claim), low)
                self.assertEqual(known.mean_by(some, neighbours.high_chain(some), claim), high)
        self.assertGreater(bent, 20)

    def bow(self, maker, one, other):
        weights = [0]
        for _ in other:
            weights.append(weights[-1] + maker.between(-3, 3))
        rows = [[maker.between(-9, 9) for _ in other]]
        for _ in one[1:]:
            # What is added is least bent where it is the square.
            gap = [pair_of(-worth(number) ** 2 * 18) for number, _ in other]
            if any(part[1] != 1 for part in gap):
                gap = [(at * weights[1], 1) for at, _ in enumerate(other)]
            rows.append([paid + part[0] for paid, part in zip(rows[-1], gap)])
        if any(abs(part) > 1000 for row in rows for part in row):
            rows = [[0 for _ in other] for _ in one]
        return tuple(tuple(row) for row in rows)

    def test_chains_of_tables(self):
        maker = Maker(101)
        for _ in range(80):
            some = maker.known()
            low, high = neighbours.low_chain(some), neighbours.high_chain(some)
            self.assertEqual(low, fair_by(some))
            self.assertIs(known.is_fair_of(some, high), True)
            for day, (one, other) in enumerate(zip(some, some[1:])):
                self.assertEqual(day_table(low, day), left_table(one, other))
                self.assertEqual(day_table(high, day), right_table(one, other))


class MarketTest(unittest.TestCase):

    def is_gain(self, one, other, gain):
        near, far, deals = [[worth(part) for part in some] for some in gain]
        for (number, _), own, dealt in zip(one, near, deals):
            for (later, _), paid in zip(other, far):
                if own + paid + dealt * (worth(later) - worth(number)) < 0:
                    return False
        return sum(worth(weight) * part for share, parts in ((one, near), (other, far))
                   for (_, weight), part in zip(share, parts)) < 0

    def test_by_hand(self):
        # WIDE is no less than ONE at any MARK; at 1 ONE has less than WIDE by 3.
        gain = ((whole(0), whole(0), whole(-1)), (whole(0), whole(0)), (whole(0), whole(0), whole(-1)))
        self.assertEqual(market.gain_by(WIDE, ONE, ("mark", whole(1))), gain)
        self.assertIs(market.is_gain(WIDE, ONE, gain), True)
        self.assertIs(market.is_gain(ONE, WIDE, gain), False)
        self.assertEqual(market.paper_by(WIDE, ONE, gain)[0], "mark")
        more = share_of_integers((-1, 4), (1, 5))
        for one, other in ((ONE, more), (more, ONE)):
            for word in ("total", "moment"):
                told = market.gain_by(one, other, (word,))
                self.assertIs(market.is_gain(one, other, told), True)
        self.assertEqual(market.above(WIDE, whole(-1)), (whole(0), whole(1), whole(3)))
        self.assertEqual(market.above(WIDE, whole(2)), (whole(0),) * 3)
        self.assertEqual(market.above(WIDE, (-5, 2)), ((1, 2), (5, 2), (9, 2)))

    def test_gains_and_papers(self):
        maker = Maker(102)
        seen = {"total": 0, "moment": 0, "mark": 0, "table": 0}
        for _ in range(400):
            one, other = maker.two(3)
            kind = maker.below(5)
            if kind == 0:
                one, other = other, one
            elif kind == 4:
                other = tuple((pair_of(worth(number) + 1), weight) for number, weight in other)
            elif kind == 1:
                other = maker.share(4)
            elif kind == 2:
                other = other[:-1] + ((other[-1][0], maker.weight()),)
            paper = wider_paper(one, other)
            seen[paper[0]] += 1
            if paper[0] == "table":
                with self.assertRaises(BadPaper) as caught:
                    market.gain_by(one, other, paper)
                self.assertEqual(caught.exception.part, "form")
                gain = (tuple(whole(-1) for _ in one), tuple(whole(0) for _ in other),
                        tuple(whole(0) for _ in one))
                self.assertIs(market.is_gain(one, other, gain), False)
                continue
            for told in (paper, ("total",), ("moment",), ("mark", maker.fraction())):
                self.turn(one, other, told)
        self.assertGreater(min(seen.values()), 20)

    def turn(self, one, other, paper):
        holds = {"total": lambda: sum(worth(w) for _, w in one) != sum(worth(w) for _, w in other),
                 "moment": lambda: (sum(worth(n) * worth(w) for n, w in one)
                                    != sum(worth(n) * worth(w) for n, w in other)),
                 "mark": lambda: rest(other, worth(paper[1])) < rest(one, worth(paper[1]))}
        if not holds[paper[0]]():
            with self.assertRaises(BadPaper) as caught:
                market.gain_by(one, other, paper)
            self.assertEqual(caught.exception.part, paper[0])
            return
        gain = market.gain_by(one, other, paper)
        self.assertTrue(self.is_gain(one, other, gain))
        self.assertIs(market.is_gain(one, other, gain), True)
        back = market.paper_by(one, other, gain)
        self.assertNotEqual(back[0], "table")
        self.assertEqual(check_wider(one, other, back), back[0])
        # And there again.
        self.assertIs(market.is_gain(one, other, market.gain_by(one, other, back)), True)

    def test_gains_by_the_words(self):
        maker = Maker(103)
        seen = [0, 0]
        for _ in range(800):
            one, other = maker.share(2), maker.share(2)
            gain = (maker.fractions(len(one), -3, 3), maker.fractions(len(other), -1, 4),
                    maker.fractions(len(one), -1, 1))
            fits = self.is_gain(one, other, gain)
            seen[fits] += 1
            self.assertIs(market.is_gain(one, other, gain), fits)
            if fits:
                self.assertFalse(is_wider(one, other))
        self.assertGreater(min(seen), 20)

    def test_wrong_gains(self):
        gain = market.gain_by(WIDE, ONE, ("mark", whole(1)))
        near, far, deals = gain
        nought = (whole(0),)
        wrong = ODD + (7, (), gain[:2], gain + (deals,), list(gain), (near, far, deals[:2]),
                       (near[:2], far, deals), (near + nought, far, deals), (near, far + nought, deals),
                       (list(near), far, deals), (near, far, deals[:2] + (0,)),
                       (near, far, deals[:2] + ((0, 2),)), (nought * 3, far, deals),
                       (near, far, nought * 3), ((whole(-9),) * 3, far, deals))
        for thing in wrong:
            self.assertIs(market.is_gain(WIDE, ONE, thing), False)
            with self.assertRaises(BadGain) as caught:
                market.paper_by(WIDE, ONE, thing)
            self.assertIs(caught.exception.given, thing)

    def test_wrong_papers(self):
        for thing in ODD + (("mark",), ("mark", (1, 1), 0), ("total", 0), ["total"], "total",
                            ("table", left_table(ONE, WIDE)), ("table", None), ("finer",)):
            for one, other in ((ONE, WIDE), (WIDE, ONE)):
                with self.assertRaises(BadPaper) as caught:
                    market.gain_by(one, other, thing)
                self.assertEqual(caught.exception.part, "form")
        for thing in ODD + FRACTIONS + ((2, 1), (-2, 1)):
            with self.assertRaises(BadPaper) as caught:
                market.gain_by(WIDE, ONE, ("mark", thing))
            self.assertEqual(caught.exception.part, "mark")

    def test_wrong_shares(self):
        for bad in ODD + SHARES:
            for call in (market.is_gain, market.gain_by, market.paper_by):
                self.assertRaises(BadShare, call, bad, None, None)
                self.assertRaises(BadShare, call, ONE, bad, None)
            self.assertRaises(BadShare, market.above, bad, None)
        for bad in ODD + FRACTIONS:
            self.assertRaises(BadFraction, market.above, ONE, bad)


class BooksTest(unittest.TestCase):

    def test_need_book(self):
        for book in ((), ((FAR_UP, None, None),), ((FAR_UP, -10 ** 6, 10 ** 6),) * 6,
                     ((FAR_UP, 3, 3), (FAR_UP, None, 1), (FAR_UP, 1, None))):
            self.assertIs(books.need_book(PAIR, book), book)
        for thing in ODD + BOOKS:
            fits = isinstance(thing, tuple) and len(thing) <= 6
            with self.assertRaises(BadBook) as caught:
                books.need_book(PAIR, thing)
            self.assertEqual(caught.exception.number is None, not fits)
        good = (FAR_UP, 0, 1)
        for thing in ODD + tuple((claim, 0, 1) for claim in CLAIMS) + ((FAR_UP, 1, 0), FAR_UP):
            with self.assertRaises(BadBook) as caught:
                books.need_book(PAIR, (good, good, thing, None))
            self.assertEqual(caught.exception.number, 2)

    def test_keeping_by_hand(self):
        fair = bounds.least_means_paper(PAIR, FAR_UP)[0]
        far = bounds.greatest_means_paper(PAIR, FAR_UP)[0]
        for bid, ask, near_keeps, far_keeps in (
                (None, None, True, True), (0, 0, True, False), (0, 1, True, True),
                (1, None, False, True), (1, 1, False, True), (None, 0, True, False),
                (-5, -1, False, False), (2, 7, False, False)):
            book = ((FAR_UP, bid, ask),)
            self.assertIs(books.does_keep(PAIR, fair, book), near_keeps)
            self.assertIs(books.does_keep(PAIR, far, book), far_keeps)
        self.assertIs(books.does_keep(PAIR, fair, ()), True)
        both = ((FAR_UP, 0, 0), (FAR_UP, 1, None))
        self.assertIs(books.does_keep(PAIR, fair, both), False)

    def test_hedges_by_hand(self):
        book = ((FAR_UP, 2, 3), (FAR_UP, None, 5), (FAR_UP, 7, None))
        hedge = (NOTHING, (whole(1), (1, 2), whole(0)), (whole(0), whole(0), (1, 4)))
        self.assertEqual(books.hedge_pays(PAIR, book, hedge),
                         tuple(whole(part) for part in (0, 0, 10, 0, 0, 0)))
        self.assertEqual(books.hedge_cost(PAIR, book, hedge), (15, 4))
        self.assertEqual(books.hedge_cost(PAIR, (), (NOTHING, (), ())), (0, 1))

    def test_wrong_hedges(self):
        book = ((FAR_UP, 2, 3), (FAR_UP, None, 5), (FAR_UP, 7, None))
        none, one = whole(0), whole(1)
        wrong = ODD + HOLDINGS + tuple((bad, (none,) * 3, (none,) * 3) for bad in ODD + HOLDINGS) + (
            (NOTHING, (none,) * 3), (NOTHING, (none,) * 2, (none,) * 3),
            (NOTHING, (none,) * 3, (none,) * 4), [NOTHING, (none,) * 3, (none,) * 3],
            (NOTHING, [none] * 3, (none,) * 3), (NOTHING, (none, none, one), (none,) * 3),
            (NOTHING, (none,) * 3, (none, one, none)), (NOTHING, (whole(-1), none, none), (none,) * 3),
            (NOTHING, (none,) * 3, (none, none, (-1, 2))), (NOTHING, (none, none, 0), (none,) * 3),
            (NOTHING, (none,) * 3, (none, none, (2, 2))), (NOTHING, (none,) * 3, (none,) * 3, ()))
        for thing in wrong:
            for call in (books.hedge_pays, books.hedge_cost):
                with self.assertRaises(BadHolding) as caught:
                    call(PAIR, book, thing)
                self.assertIs(caught.exception.given, thing)

    def test_papers_by_hand(self):
        self.assertEqual(books.book_paper(PAIR, ())[0], "fair")
        # From -1 to 2 it goes at most once of eight times.
        for bid, ask, word in ((1, None, "fair"), (2, None, "gain"), (None, 0, "fair"),
                               (None, -1, "gain"), (0, 0, "fair"), (1, 1, "fair"), (2, 2, "gain"),
                               (-1, -1, "gain"), (None, None, "fair")):
            paper = books.book_paper(PAIR, ((FAR_UP, bid, ask),))
            self.assertEqual(paper[0], word, (bid, ask))
            self.assertEqual(books.check_book(PAIR, ((FAR_UP, bid, ask),), paper), word)
        both = ((FAR_UP, 0, 0), (FAR_UP, 1, None))
        self.assertEqual(books.book_paper(PAIR, both)[0], "gain")
        # Under what is sure to be 0 or more, and 1 or less, the same as without.
        self.assertEqual(books.greatest_under(PAIR, ((FAR_UP, 0, 1),), FAR_UP), (1, 1))
        self.assertEqual(books.least_under(PAIR, ((FAR_UP, 1, None),), FAR_UP), (1, 1))
        twice = tuple(2 * part for part in FAR_UP)
        self.assertEqual(books.greatest_under(PAIR, ((twice, 1, 1),), FAR_UP), (1, 2))
        self.assertEqual(books.least_under(PAIR, ((twice, 1, 1),), FAR_UP), (1, 2))
        self.assertEqual(books.least_under((ONE,), (((2, 6), 4, 4),), (6, 2)), (4, 1))

    def test_papers(self):
        maker = Maker(104)
        seen = {"fair": 0, "gain": 0}
        narrowed = 0
        for _ in range(250):
            some = maker.known()
            book, claim = maker.book(some), maker.claim(some)
            if maker.below(2):
                book = self.tight(maker, some) + book[:1]
            paper = books.book_paper(some, book)
            seen[paper[0]] += 1
            self.assertEqual(books.check_book(some, book, paper), paper[0])
            if paper[0] == "gain":
                self.gains(some, book, paper[1])
                self.all_gain(some, book, claim)
                # No FAIR SHARE keeps it.
                self.refuse(some, book, ("fair", fair_by(some)), "fair")
                continue
            self.assertTrue(keeps(some, paper[1], book))
            self.assertIs(known.is_fair_of(some, paper[1]), True)
            low, high = books.least_under(some, book, claim), books.greatest_under(some, book, claim)
            narrowed += high != bounds.greatest_mean(some, claim)
            self.assertLessEqual(worth(bounds.least_mean(some, claim)), worth(low))
            self.assertLessEqual(worth(low), mean(some, paper[1], claim))
            self.assertLessEqual(mean(some, paper[1], claim), worth(high))
            self.assertLessEqual(worth(high), worth(bounds.greatest_mean(some, claim)))
            told = books.under_paper(some, book, claim)
            self.assertEqual(books.check_under(some, book, claim, told), high)
            fair, hedge = told
            self.assertTrue(keeps(some, fair, book))
            self.assertEqual(mean(some, fair, claim), worth(high))
            self.assertEqual(hedge_cost(some, book, hedge), worth(high))
            self.assertTrue(all(paid >= part for paid, part
                                in zip(hedge_pays(some, book, hedge), claim)))
            contrary = tuple(-part for part in claim)
            self.assertEqual(worth(low), -worth(books.greatest_under(some, book, contrary)))
        self.assertGreater(min(seen.values()), 30)
        self.assertGreater(narrowed, 10)

    def tight(self, maker, some):
        """A BOOK with a BID and an ASK well within what MEANS there can be."""
        claim = maker.claim(some, -900, 900)
        low, high = [worth(part) for part in (bounds.least_mean(some, claim),
                                              bounds.greatest_mean(some, claim))]
        bid, ask = sorted(low + (high - low) * maker.below(5) / 4 for _ in range(2))
        return ((claim, ceil(bid), max(ceil(bid), floor(ask))),)

    def gains(self, some, book, hedge):
        self.assertGreaterEqual(min(hedge_pays(some, book, hedge)), 0)
        self.assertLess(hedge_cost(some, book, hedge), 0)
        for (_, bid, ask), bought, sold in zip(book, hedge[1], hedge[2]):
            self.assertTrue(bought[0] >= 0 and sold[0] >= 0)
            self.assertTrue(ask is not None or bought == (0, 1))
            self.assertTrue(bid is not None or sold == (0, 1))
        self.assertEqual(list(books.hedge_pays(some, book, hedge)),
                         [pair_of(part) for part in hedge_pays(some, book, hedge)])
        self.assertEqual(books.hedge_cost(some, book, hedge),
                         pair_of(hedge_cost(some, book, hedge)))

    def all_gain(self, some, book, claim):
        """Each MEAN under a BOOK that nothing keeps raises its error, ahead of BadPaper."""
        for call, more in ((books.least_under, ()), (books.greatest_under, ()),
                           (books.under_paper, ()), (books.check_under, (None,))):
            with self.assertRaises(SureGain) as caught:
                call(some, book, claim, *more)
            paper = caught.exception.paper
            self.assertEqual(paper[0], "gain")
            self.assertEqual(books.check_book(some, book, paper), "gain")
            with self.assertRaises(BadClaim):
                call(some, book, None, *more)

    def refuse(self, some, book, paper, part):
        with self.assertRaises(BadPaper) as caught:
            books.check_book(some, book, paper)
        self.assertEqual(caught.exception.part, part)

    def test_which_papers_on_books_hold(self):
        book = ((FAR_UP, 1, None),)
        paper = books.book_paper(PAIR, book)
        self.refuse(PAIR, book, ("fair", bounds.least_means_paper(PAIR, FAR_UP)[0]), "fair")
        for thing in ODD + FAIRS + (fair_by((ONE, ONE)),):
            self.refuse(PAIR, book, ("fair", thing), "fair")
        for thing in ODD + HOLDINGS:
            self.refuse(PAIR, book, ("gain", thing), "gain")
        for thing in ODD + ((), paper[:1], paper + (0,), list(paper), "fair", ("mark", paper[1])):
            self.refuse(PAIR, book, thing, "form")
        dear = ((FAR_UP, 2, None),)
        word, hedge = books.book_paper(PAIR, dear)
        self.assertEqual(word, "gain")
        holding, buys, sells = hedge
        self.refuse(PAIR, dear, ("gain", (NOTHING, (whole(0),), (whole(0),))), "gain")
        self.refuse(PAIR, dear, ("gain", (NOTHING, (whole(0),), (whole(1),))), "gain")
        self.refuse(PAIR, dear, ("gain", (holding, buys, (whole(0),))), "gain")
        # For one SHARE and what is nowhere less than nought.
        self.refuse(PAIR, book, ("gain", hedge), "gain")
        self.refuse(PAIR, dear, ("fair", paper[1]), "fair")

    def test_which_papers_under_books_hold(self):
        book = ((tuple(2 * part for part in FAR_UP), 1, 1),)
        paper = books.under_paper(PAIR, book, FAR_UP)
        fair, hedge = paper
        self.assertEqual(books.check_under(PAIR, book, FAR_UP, paper), (1, 2))

        def part_of(thing):
            with self.assertRaises(BadPaper) as caught:
                books.check_under(PAIR, book, FAR_UP, thing)
            return caught.exception.part

        for thing in ((), (fair,), paper + (0,), list(paper), None, 7, "ab"):
            self.assertEqual(part_of(thing), "form")
        for thing in ODD + FAIRS + (bounds.least_means_paper(PAIR, FAR_UP)[0],):
            self.assertEqual(part_of((thing, None)), "fair")
        for thing in ODD + HOLDINGS + (hedge[0], (NOTHING, (whole(0),), (whole(0),))):
            self.assertEqual(part_of((fair, thing)), "holding")
        (held, deals), buys, sells = hedge
        dear = pair_of(worth(held[0][0]) + 1)
        self.assertEqual(part_of((fair, ((((dear, held[0][1]), held[1]), deals), buys, sells))),
                         "cost")
        low = pair_of(worth(held[0][0]) - 1)
        self.assertEqual(part_of((fair, ((((low, held[0][1]), held[1]), deals), buys, sells))),
                         "holding")

    def test_six_quotes(self):
        rows = range(6)
        book = tuple((tuple(int(at == row) for row in rows), 0, 1) for at in rows)
        self.assertEqual(books.book_paper(PAIR, book)[0], "fair")
        self.assertEqual(books.greatest_under(PAIR, book, FAR_UP), (1, 1))
        tight = tuple((claim, 1, 1) for claim, _, _ in book)
        self.assertEqual(books.book_paper(PAIR, tight)[0], "gain")


class OrderTest(unittest.TestCase):

    def test_which_error_comes_first(self):
        for bad in KNOWNS:
            self.assertRaises(ValueError, books.does_keep, bad, None, None)
        self.assertRaises(BadFair, books.does_keep, PAIR, None, None)
        self.assertRaises(BadBook, books.does_keep, PAIR, fair_by(PAIR), None)
        self.assertRaises(BadBook, books.hedge_pays, PAIR, None, None)
        self.assertRaises(BadBook, books.check_under, PAIR, None, None, None)
        self.assertRaises(BadClaim, books.check_under, PAIR, (), None, None)


class ToldTest(unittest.TestCase):

    def test_by_hand(self):
        self.assertIs(toldclaims.is_told(PAIR, FAR_UP), False)
        self.assertIsNone(toldclaims.replica(PAIR, FAR_UP))
        self.assertIs(toldclaims.is_told(PAIR, (1, 2, 3, 1, 2, 3)), True)
        self.assertIs(toldclaims.is_told((ONE,), (1, 2)), True)
        self.assertEqual(toldclaims.reached((ONE, ONE)), (
            (whole(-1), whole(-1)), (whole(1), whole(1))))
        self.assertEqual(toldclaims.reached(PAIR), known.rows_of(PAIR))
        # Between rows that no FAIR SHARE has, anything may be told.
        self.assertIs(toldclaims.is_told((ONE, ONE), (1, 99, -99, 2)), True)
        replica = toldclaims.replica((ONE, ONE), (1, 99, -99, 2))
        told = holdings.pays((ONE, ONE), replica)
        self.assertEqual((told[0], told[3]), (whole(1), whole(2)))

    def test_facts(self):
        maker = Maker(105)
        seen = [0, 0]
        lacking = 0
        for _ in range(120):
            some = maker.known()
            rows = known.rows_of(some)
            reached = toldclaims.reached(some)
            lacking += len(reached) < len(rows)
            self.assertEqual(reached, tuple(row for row in rows if row in reached))
            for at, row in enumerate(rows):
                if maker.below(4) == 0:
                    claim = tuple(int(at == other) for other in range(len(rows)))
                    self.assertEqual(row in reached, bounds.greatest_mean(some, claim) != (0, 1))
                if len(some) == 2:
                    self.assertEqual(row in reached, can_go(some[0], some[1], row[0], row[1]))
            claim = maker.claim(some)
            if maker.below(2):
                holding = (tuple(tuple(whole(maker.between(-5, 5)) for _ in share) for share in some),
                           tuple(whole(0) for _ in known.beginnings(some)))
                claim = tuple(part[0] if row in reached else maker.between(-9, 9)
                              for row, part in zip(rows, holdings.pays(some, holding)))
            told = bounds.least_mean(some, claim) == bounds.greatest_mean(some, claim)
            seen[told] += 1
            self.assertIs(toldclaims.is_told(some, claim), told)
            replica = toldclaims.replica(some, claim)
            self.assertEqual(replica is not None, told)
            if told:
                for row, paid, part in zip(rows, pays(some, replica), claim):
                    if row in reached:
                        self.assertEqual(paid, part)
        self.assertGreater(min(seen), 20)
        self.assertGreater(lacking, 10)

    def test_wrong_ones(self):
        for call in (toldclaims.is_told, toldclaims.replica):
            for thing in ODD + CLAIMS:
                with self.assertRaises(BadClaim) as caught:
                    call(PAIR, thing)
                self.assertIs(caught.exception.given, thing)
        for bad in ODD + KNOWNS:
            for call, more in ((toldclaims.is_told, 1), (toldclaims.replica, 1),
                               (toldclaims.reached, 0), (neighbours.claim_of, 1),
                               (neighbours.least_of, 1), (neighbours.greatest_of, 1),
                               (neighbours.low_chain, 0), (neighbours.high_chain, 0),
                               (books.need_book, 1), (books.book_paper, 1), (books.check_book, 2)):
                with self.assertRaises(ValueError) as caught:
                    call(bad, *[None] * more)
                self.assertIs(caught.exception.given, bad)

    def test_great_numbers(self):
        big = Fraction(10 ** 58 + 7)
        scaled = tuple(tuple((pair_of(worth(number) * big), pair_of(worth(weight) / big))
                             for number, weight in share) for share in THREE)
        self.assertEqual(len(toldclaims.reached(scaled)), len(toldclaims.reached(THREE)))
        claim = (1, -2, 3, 4, 5, -6)
        self.assertEqual(bounds.greatest_mean(scaled, claim), bounds.greatest_mean(THREE, claim))

    def test_numbers_and_weights_of_60_figures(self):
        big = 10 ** 58
        one = ((pair_of(Fraction(big + 9, big + 7)), pair_of(Fraction(big + 1, 3 * big + 2))),
               (pair_of(Fraction(5 * big + 3, 2 * big + 1)), pair_of(Fraction(7 * big - 1, big - 6))))
        maker = Maker(106)
        long = 0
        for _ in range(8):
            some = [one]
            while len(some) < 3:
                wide = maker.wider(some[-1])
                if len(wide) < 7 - len(some):
                    some.append(wide)
            some = tuple(some)
            known.need_known(some)
            long = max(long, len(known.rows_of(some)))
            claim = maker.claim(some, -10 ** 6, 10 ** 6)
            low = bounds.check_least_mean(some, claim, bounds.least_means_paper(some, claim))
            high = bounds.check_greatest_mean(some, claim, bounds.greatest_means_paper(some, claim))
            middle = floor((worth(low) + worth(high)) / 2)
            for bid in (middle, floor(worth(high)) + 1):
                book = ((claim, bid, None), (claim, None, 10 ** 6))
                paper = books.book_paper(some, book)
                self.assertEqual(books.check_book(some, book, paper), paper[0])
                self.assertEqual(paper[0], "fair" if bid <= worth(high) else "gain")
                if paper[0] == "fair":
                    under = books.under_paper(some, book, claim)
                    self.assertEqual(books.check_under(some, book, claim, under), high)
            self.assertEqual(toldclaims.is_told(some, claim), low == high)
            for row in toldclaims.reached(some):
                self.assertIn(row, known.rows_of(some))
        self.assertGreater(long, 12)


if __name__ == "__main__":
    unittest.main()
