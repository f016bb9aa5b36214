"""Facts that tie many parts of the program together."""

import unittest

from forehouse import (agree, between, blurs, bounds, coarser, decisions, desk, fairshares, judge,
                       ladders, laddersback, looks, market, moves, ownviews, polygons, retell, scores,
                       shares, sides, spans, tables, takes, tellback, tellers, terms, texts, turn,
                       views, worths)
from forehouse.dayviews import fair_of
from forehouse.errors import NotWider
from forehouse.house import House
from forehouse.known import is_fair_of, mean_by, rows_of
from forehouse.lefts import crossings, crossings_back, left_table, right_table
from forehouse.ordersback import chain_ties
from forehouse.onetables import best_guesses, level_view
from forehouse.rests import is_wider, rest_at, wider_paper
from forehouse.rewards import greatest_value, least_value, value_of
from forehouse.talks import last_public
from tests.makers import Maker, is_wider_by_rests, pair_of, rest, whole, worth
from tests.test_sides import pair_of_shares


class RelationTest(unittest.TestCase):

    def is_wide_by(self, call, *args):
        try:
            call(*args)
        except NotWider as error:
            self.assertNotEqual(error.paper[0], "table")
            return False
        return True

    def test_one_relation_seen_from_all_sides(self):
        maker = Maker(210)
        seen = {True: 0, False: 0}
        cases = {True: 0, False: 0}
        for _ in range(300):
            one, other = pair_of_shares(maker)
            wide = is_wider_by_rests(one, other)
            seen[wide] += 1
            self.assertIs(is_wider(one, other), wide)
            paper = wider_paper(one, other)
            self.assertEqual(paper[0] == "table", wide)
            for call in (left_table, right_table, spans.stretches, retell.spreads_of, retell.pools_of):
                self.assertEqual(self.is_wide_by(call, one, other), wide)
            self.assertEqual(self.is_wide_by(fairshares.fair_by, (one, other)), wide)
            self.assertIs(between.can_be_between(one, other, other), wide)
            if not wide:
                gain = market.gain_by(one, other, paper)
                self.assertIs(market.is_gain(one, other, gain), True)
            if shares.total(one) == shares.total(other):
                self.assertEqual(takes.stakes_by(one, other) is None, wide)
            for paper in turn.tour(one, other):
                self.assertEqual(paper[1], "yes" if wide else "no")
            if looks.is_case(one) and looks.is_case(other):
                near, far = looks.look_of(one), looks.look_of(other)
                alike = shares.moment(one) == shares.moment(other)
                had = blurs.is_had(far, near)
                cases[had] += 1
                self.assertIs(polygons.is_over(far, near), had)
                if alike:
                    self.assertIs(had, wide)
        self.assertGreater(min(seen.values()), 60)
        self.assertGreater(min(cases.values()), 10)

    def test_where_it_is_so(self):
        maker = Maker(211)
        for _ in range(80):
            one, other = maker.two(4)
            first, last = left_table(one, other), right_table(one, other)
            self.assertEqual((crossings(first), crossings_back(last)), ((), ()))
            reward = maker.reward(one, other)
            low, high = least_value(one, other, reward), greatest_value(one, other, reward)
            claim = tuple(part for row in reward for part in row)
            some = (one, other)
            whole_weight = worth(shares.total(one))
            self.assertEqual(worth(bounds.least_mean(some, claim)), worth(low) / whole_weight)
            self.assertEqual(worth(bounds.greatest_mean(some, claim)), worth(high) / whole_weight)
            for table in (first, last):
                self.assertIs(tables.goes_between(one, other, table), True)
                self.assertIs(takes.is_joint(one, other, table), True)
                value = worth(value_of(one, other, reward, table))
                self.assertTrue(worth(low) <= value <= worth(high))
                fair = fairshares.chained((table,))
                self.assertIs(is_fair_of(some, fair), True)
                self.assertEqual(worth(mean_by(some, fair, claim)), value / whole_weight)
                self.assertTrue({path for path, _ in fair} <= set(rows_of(some)))
                # The WORLD of its PATHS, and the ROW that has them.
                world, row = tellback.world_of(fair), tellback.row_of(fair)
                self.assertEqual(fair_of(world, row), fair)
                self.assertIs(ownviews.is_own(world, row), True)
                self.assertEqual(sides.check_side(one, other, ("views", "yes", (world,) + row)), "yes")
                self.assertEqual(sides.check_side(one, other, ("days", "yes", fair)), "yes")

    def test_each_share_that_is_less_wide_is_that_of_a_coarser_view(self):
        maker = Maker(212)
        found = 0
        for _ in range(60):
            one, other = maker.two(2)
            world, view, finer = turn.side_paper(one, other, "views")[2]
            self.assertEqual(views.share_of(world, finer), other)
            self.assertEqual(views.share_of(world, view), one)
            if len(finer) <= 6:
                found += 1
                self.assertIn(one, coarser.coarser_shares(world, finer))
                told = coarser.coarser_with(world, finer, one)
                self.assertEqual(views.share_of(world, told), one)
        self.assertGreater(found, 20)


class WorldTest(unittest.TestCase):

    def test_views_of_a_world(self):
        maker = Maker(213)
        finer_seen = 0
        for _ in range(150):
            world = maker.world(6)
            many = len(world)
            view, other = maker.view(many), maker.view(many)
            one, far = views.share_of(world, view), views.share_of(world, other)
            both = views.join_of(world, (view, other))
            self.assertTrue(is_wider(one, views.share_of(world, both)))
            self.assertTrue(is_wider(views.share_of(world, views.meet_of(world, (view, other))), one))
            core = views.core(world, view)
            self.assertEqual(views.share_of(world, core), one)
            self.assertEqual(level_view(world, chain_ties(world, view)), core)
            self.assertEqual(best_guesses(world, chain_ties(world, view)), views.forecasts(world, view))
            public = last_public(world, (view, other))
            self.assertTrue(is_wider(views.share_of(world, public), views.share_of(world, both)))
            for state in range(many):
                agreed = agree.agreed(world, (view, other), state)
                if agreed is not None:
                    cells = views.meet_of(world, (view, other))
                    cell = [cell for cell in cells if state in cell][0]
                    self.assertEqual(agreed, views.mean_of(world, cell))
            self.check_scores(maker, world, view, one)
            if views.is_finer(world, view, other):
                finer_seen += 1
                self.assertTrue(is_wider(far, one))
                self.assertEqual(sides.check_side(far, one, ("views", "yes", (world, other, view))),
                                 "yes")
                fair = fair_of(world, (other, view))
                self.assertEqual(fairshares.day_share(fair, 0), far)
                self.assertEqual(fairshares.day_share(fair, 1), one)
        self.assertGreater(finer_seen, 40)

    def check_scores(self, maker, world, view, share):
        score = maker.score()
        told = views.forecasts(world, view)
        loss = worth(tellers.loss(world, told, score))
        self.assertEqual(loss, worth(worths.weighed_world(score, world))
                         - worth(worths.weighed_rest(score, share)))
        self.assertIs(tellers.is_own(world, told), True)
        self.assertEqual(worth(worths.weighed_rest(score, share)),
                         sum(worth(weight) * worth(scores.bend_at(score, number))
                             for number, weight in share))
        mark = maker.fraction()
        self.assertEqual(worth(tellers.charge(world, told, mark)),
                         worth(worths.world_rest(world, mark)) - worth(rest_at(share, mark)))
        ladder, report = maker.ladder(), maker.fraction()
        # What a hand EARNS is what the GUESS of the REPORT loses more than its FORECASTS.
        as_score = ladders.as_score(ladder)
        flat = tuple(report for _ in world)
        self.assertEqual(worth(moves.earns(ladder, report, share)),
                         worth(tellers.loss(world, flat, as_score))
                         - worth(tellers.loss(world, told, as_score)))
        points = laddersback.points_of(ladder, report)
        self.assertEqual(laddersback.ladder_back(points, report), ladder)

    def test_led_by_words_alone(self):
        """A TERM with its VIEWS, written, judged, and led at a desk and without it."""
        maker = Maker(214)
        for _ in range(60):
            one, other = maker.two(3)
            term = retell.spreads_of(one, other)
            world = terms.world_of(term)
            self.assertEqual(terms.plain_share(world), other)
            text = texts.term_text(term)
            self.assertEqual(texts.read_term(text), term)
            words = [("each",), maker.view_words(len(world), 3)]
            lines = [texts.words_text(world, some) for some in words]
            told = judge.judged("\n".join([text] + lines + ["finer", "wider"]))
            self.assertEqual(told, (True, True))
            ladder, first = maker.ladder(), maker.fraction()
            numbers = [first] + [part for rung in ladder for part in rung]
            led = desk.Desk("\n".join([text, "2"] + lines + [texts.fractions_text(numbers)]))
            own = House(world, led.house.views, ladder, first)
            for hand in (1, 0):
                led.say("tell " + str(hand))
                own.tell(hand)
            self.assertTrue(led.house == own)
            self.assertEqual(own.reports(), tuple(value for _, value in world))
            # All together have EARNED what one hand that knows each STATE does.
            weights = [worth(weight) for weight, _ in world]
            self.assertEqual(sum(weight * worth(part) for weight, part in zip(weights, own.paid_out())),
                             worth(moves.earns(ladder, first, other)))

    def test_looks_of_cases(self):
        maker = Maker(215)
        for _ in range(80):
            many = maker.between(2, 6)
            world = ((maker.weight(), whole(0)), (maker.weight(), whole(1))) + tuple(
                (maker.weight(), whole(maker.below(2))) for _ in range(many - 2))
            view = maker.view(many)
            finer = views.join_of(world, (view, maker.view(many)))
            near, far = looks.view_look(world, finer), looks.view_look(world, view)
            blur = blurs.view_blur(world, finer, view)
            self.assertIs(blurs.is_blur(near, far, blur), True)
            weights = [worth(weight) for weight, _ in world]
            prior = pair_of(worth(shares.moment(views.share_of(world, view))) / sum(weights))
            table = blurs.table_by(near, far, blur, prior)
            own, wide = looks.share_by(far, prior), looks.share_by(near, prior)
            self.assertIs(tables.goes_between(own, wide, table), True)
            decision, mark = maker.decision(), maker.chance()
            self.assertLessEqual(worth(decisions.worth_for(far, prior, decision)),
                                 worth(decisions.worth_for(near, prior, decision)))
            self.assertEqual(worth(decisions.worth_for(far, prior, decisions.of_mark(mark))),
                             rest(own, worth(mark)))


if __name__ == "__main__":
    unittest.main()
