"""Every function with the kinds of its arguments, and arguments that are right."""

from forehouse import (agree, bets, between, blurs, books, bounds, coarser, dayviews, decisions,
                       desk, errors, fairshares, flows, holdings, house, houses, hub, judge, known,
                       knows, ladders, laddersback, lefts, looks, market, moves, neighbours,
                       onetables, orders, ordersback, ownviews, polygons, prices, ratios, rests,
                       retell, rewards, rivals, runs, scores, shares, sides, spans, tables, takes,
                       talks, tellback, tellers, terms, texts, toldclaims, turn, views, viewwords,
                       ville, worths)
from tests import wrongs
from tests.makers import share_of_integers, whole, world_of_integers
from tests.wrongs import ODD

# Each kind of an argument: its error, and what is wrong of this kind beside what is always wrong.
KINDS = {
    "world": ("BadWorld", wrongs.WORLDS), "view": ("BadView", wrongs.VIEWS),
    "views": ("BadViews", wrongs.SOME_VIEWS), "event": ("BadEvent", wrongs.LOTS),
    "cell": ("BadEvent", wrongs.LOTS + ((),)), "state": ("BadState", wrongs.STATES),
    "bet": ("BadBet", wrongs.BETS), "guesses": ("BadGuesses", wrongs.BETS),
    "share": ("BadShare", wrongs.SHARES), "table": ("BadTable", wrongs.TABLES),
    "fraction": ("BadFraction", wrongs.FRACTIONS), "score": ("BadScore", wrongs.SCORES),
    "ladder": ("BadLadder", wrongs.LADDERS), "reward": ("BadReward", ((), ((0,),), 0)),
    "near": ("BadNumber", wrongs.FRACTIONS + ((7, 1), (1, 2))),
    "far": ("BadNumber", wrongs.FRACTIONS + ((7, 1), (1, 2))),
    "times": ("BadNumber", (-1, (1,), -10 ** 30)), "integer": ("BadNumber", ((1, 1), "1")),
    "bottom": ("BadNumber", ((1, 1), 0)), "fractions": ("BadFractions", ((1, 1), 1)),
    "houses": ("BadHouses", wrongs.HOUSES), "deals": ("BadDeals", wrongs.DEALS),
    "points": ("BadPoints", wrongs.POINTS), "ties": ("BadTies", wrongs.TIES),
    "row": ("BadRow", wrongs.ROWS), "chain": ("BadRow", wrongs.CHAINS),
    "fair": ("BadFair", wrongs.FAIRS), "day": ("BadDay", wrongs.STATES),
    "shares": ("BadShare", wrongs.SOME_SHARES),
    "known": ("BadKnown", wrongs.KNOWNS), "claim": ("BadClaim", wrongs.CLAIMS),
    "holding": ("BadHolding", wrongs.HOLDINGS), "hedge": ("BadHolding", wrongs.HOLDINGS),
    "book": ("BadBook", wrongs.BOOKS), "pairs": ("BadReward", wrongs.PAIR_CLAIMS),
    "fair_of": ("BadFair", wrongs.FAIRS + ((((whole(0),), whole(1)),),)),
    "gain": ("BadGain", (7, ())), "look": ("BadLook", wrongs.LOOKS),
    "prior": ("BadPrior", wrongs.PRIORS), "case": ("BadCase", wrongs.CASES),
    "blur": ("BadBlur", wrongs.BLURS + ((((0, 1), (1, 1)),) * 2,)),
    "rows": ("BadBlur", wrongs.BLURS[4:13] + ((((0, 1), (1, 1)),) * 2,)),
    "decision": ("BadDecision", wrongs.DECISIONS),
    "at": ("BadFraction", wrongs.FRACTIONS + ((-1, 2), (3, 2))),
    "length": ("BadNumber", wrongs.LENGTHS), "forecaster": ("BadForecaster", wrongs.FORECASTERS),
    "mild": ("BadForecaster", wrongs.FORECASTERS + ((wrongs.RANGE,) * 3, (((0, 1), (0, 1)),) * 3,
                                                    (((1, 1), (1, 1)),) * 3)),
    "chances": ("BadChances", wrongs.CHANCES), "run": ("BadRun", wrongs.RUNS),
    "bets": ("BadStakes", wrongs.STAKES), "payoff": ("BadPayoff", wrongs.PAYOFFS),
    "safe": ("BadStakes", wrongs.STAKES + (((4, 1), (0, 1), (0, 1)), ((0, 1), (0, 1), (-4, 1)))),
    "goal": ("BadGoal", wrongs.GOALS), "aim": ("BadGoal", wrongs.GOALS + ((),)),
    "multiple": ("BadTimes", wrongs.TIMES), "part": ("BadParts", wrongs.PART),
    "several": ("BadForecaster", wrongs.SOME_FORECASTERS), "parts": ("BadParts", wrongs.PARTS),
    "stakes": ("BadStakes", wrongs.SHARE_STAKES), "joint": ("BadTable", wrongs.TABLES),
    # Of the TOTAL 8.
    "alike": ("BadShare", wrongs.SHARES + ((((0, 1), (7, 1)),),)),
    "side": ("BadSide", wrongs.SIDES), "term": ("BadTerm", wrongs.TERMS),
    "words": ("BadWords", wrongs.VIEW_WORDS), "text": ("BadText", wrongs.TEXTS),
    "paper": ("BadPaper", (7, [()])), "any": (None, ())}

WORLD = world_of_integers((1, 0), (1, 1), (2, 2))
VIEW, OTHER = ((0, 1), (2,)), ((0,), (1, 2))
VIEWS = (VIEW, OTHER)
BET = (whole(1), whole(-1), whole(0))
ONE = share_of_integers((-1, 4), (1, 4))
WIDE = share_of_integers((-2, 3), (0, 2), (2, 3))
REWARD = ((0, 1, 0), (0, 0, 2))
TABLE = lefts.left_table(ONE, WIDE)
LATER = tuple((number, number, weight) for number, weight in WIDE)
MARK = (1, 2)
SCORE = (("mark", (0, 1), (1, 1)), ("stretch", (0, 1), (1, 1), (1, 2)))
LADDER = (((0, 1), (1, 1)), ((1, 1), (2, 1)))

HOUSES = ((((whole(1), (2, 1)), (whole(5), (1, 1)), (whole(6), (3, 1))), (11, 2)),
          (((whole(3), (2, 1)), (whole(7), (4, 1))), whole(2)))
DEALS = ((0, 1, (1, 1)), (1, 0, (1, 1)))
POINTS = laddersback.points_of(LADDER, MARK)
TIES = ((0, 1), (2, 1))
ROW = (((0, 1, 2),), VIEW, ((0,), (1,), (2,)))
FAIR = dayviews.fair_of(WORLD, ROW)

KNOWN = (ONE, WIDE)
CLAIM = (0, 0, 8, 0, 0, -3)
HOLDING = (((whole(1), whole(2)), (whole(0), whole(3), whole(4))), (whole(5), whole(6)))
BOOK = ((CLAIM, -3, None), ((1, 2, 3, 4, 5, 6), None, 5))
HEDGE = (HOLDING, (whole(0), whole(2)), ((1, 2), whole(0)))
GAIN = market.gain_by(WIDE, ONE, ("mark", whole(1)))
LOOK = (((1, 4), (3, 4)), ((3, 4), (1, 4)))
CASE_WORLD = world_of_integers((1, 0), (1, 1), (2, 1))
LESS = (((1, 2), (1, 2)), ((1, 2), (1, 2)))
BLUR = (((1, 2), (1, 2)), ((1, 2), (1, 2)))
CASE_TABLE = blurs.table_by(LOOK, LESS, BLUR, (1, 3))
DECISION = ((whole(1), whole(-1)), (whole(0), whole(0)))
FORECASTER = (wrongs.RANGE,) * 3
BETS = ((1, 2), whole(-1), whole(1))
PAYOFF = (whole(3), whole(0), whole(-1), (1, 2))
JOINT = ((whole(-1), whole(-2), whole(2)), (whole(-1), whole(0), whole(2)),
         (whole(1), whole(-2), whole(1)), (whole(1), whole(2), whole(3)))

TERM = ("pooled", ("spread", ("states", WORLD), 2, whole(1), whole(4)), (0, 2))
WORDS = ("join", ("marks", (whole(1), (3, 2))), ("core", ("cells", VIEW)))
SHEET = "states 2 1 0 1 1\neach\nnone\nfiner\nrest 0 1/2\ncommon 0 0 1"
DESK = "states 2 1 0 1 1\n1\neach\n1/2 0 1"

GOOD = {"side": "scores", "term": TERM, "words": WORDS, "text": "core each", "blur": BLUR,
        "rows": BLUR, "decision": DECISION, "at": (1, 3), "length": 2, "forecaster": FORECASTER,
        "mild": wrongs.MILD, "chances": ((1, 3), (1, 2), (2, 5)), "run": (0, 1), "bets": BETS,
        "payoff": PAYOFF, "safe": BETS, "goal": ((0, 0), (1, 0)), "aim": ((0, 0),),
        "multiple": (3, 2), "part": (1, 3), "several": (wrongs.MILD, (((1, 4), (1, 4)),) * 3),
        "parts": ((1, 3), (2, 3)), "stakes": (whole(1), whole(-2)), "joint": JOINT, "alike": WIDE,
        "known": KNOWN, "claim": CLAIM, "holding": HOLDING, "hedge": HEDGE, "book": BOOK,
        "pairs": (REWARD,), "fair_of": fairshares.fair_by(KNOWN), "gain": GAIN, "look": LOOK,
        "prior": (1, 3), "case": looks.share_by(LOOK, (1, 3)), "houses": HOUSES, "deals": DEALS,
        "points": POINTS, "ties": TIES, "row": ROW, "fair": FAIR, "chain": (TABLE, LATER), "day": 1,
        "shares": (ONE, WIDE), "world": WORLD, "view": VIEW, "views": VIEWS, "event": (0, 1),
        "cell": (0, 2), "state": 0, "bet": BET, "guesses": BET, "share": ONE, "table": TABLE,
        "fraction": MARK, "score": SCORE, "ladder": LADDER, "reward": REWARD, "near": whole(1),
        "far": whole(0), "times": 2, "integer": 3, "bottom": -2, "fractions": (MARK, MARK),
        "any": None}


class Call:
    """A function with the kinds of its arguments, and arguments that are right."""

    def __init__(self, function, kinds, names, **given):
        self.function = function
        self.kinds = kinds.split()
        self.names = names.split()
        self.given = {**GOOD, **given}
        self.args = [self.given.get(name, self.given[kind])
                     for kind, name in zip(self.kinds, self.names)]


PAIR = {"other": WIDE}
TWO = {"other": OTHER}
STEP = {"number": whole(1), "other": WIDE}

CALLS = (
    Call(ratios.need_fraction, "fraction", "thing"),
    Call(ratios.ratio, "integer bottom", "top bottom"),
    Call(ratios.plus, "fraction fraction", "one other"),
    Call(ratios.less, "fraction fraction", "one other"),
    Call(ratios.times, "fraction fraction", "one other"),
    Call(ratios.over, "fraction fraction", "one other"),
    Call(ratios.is_less, "fraction fraction", "one other"),
    Call(ratios.ordered, "fractions", "some"),
    Call(views.need_world, "world", "thing"),
    Call(views.need_view, "world view", "world thing"),
    Call(views.mean_of, "world cell", "world lot"),
    Call(views.forecasts, "world view", "world view"),
    Call(views.share_of, "world view", "world view"),
    Call(views.join_of, "world views", "world views"),
    Call(views.meet_of, "world views", "world views"),
    Call(views.core, "world view", "world view"),
    Call(views.is_finer, "world view view", "world view other", **TWO),
    Call(views.finer_paper, "world view view", "world view other", **TWO),
    Call(views.check_finer, "world view view paper", "world view other paper", **TWO,
         paper=("apart", 0, 1)),
    Call(views.view_by, "world bet", "world things"),
    Call(knows.does_know, "world view event state", "world view event state"),
    Call(knows.known_times, "world views event times", "world views event times"),
    Call(knows.common, "world views event", "world views event"),
    Call(knows.depth, "world views event state", "world views event state"),
    Call(knows.common_paper, "world views event state", "world views event state"),
    Call(knows.check_common, "world views event state paper", "world views event state paper",
         paper=("way", (0, 1, 2), (0, 1))),
    Call(agree.agreed, "world views state", "world views state"),
    Call(agree.takes, "world view bet state", "world view bet state"),
    Call(agree.gives, "world view bet state", "world view bet state"),
    Call(agree.bet_way, "world view view bet state", "world view other bet state", **TWO),
    Call(agree.check_bet, "world view view bet state paper", "world view other bet state paper",
         **TWO, paper=((0,), ())),
    Call(talks.round_talk, "world views", "world views"),
    Call(talks.last_public, "world views", "world views"),
    Call(talks.check_talk, "world views paper", "world views paper",
         paper=talks.round_talk(WORLD, VIEWS)),
    Call(talks.Talk, "world views", "world views"),
    Call(coarser.coarser_views, "world view", "world view"),
    Call(coarser.coarser_shares, "world view", "world view"),
    Call(coarser.coarser_with, "world view share", "world view share"),
    Call(shares.need_share, "share", "thing"),
    Call(shares.total, "share", "share"),
    Call(shares.moment, "share", "share"),
    Call(shares.put_together, "share share", "one other", **PAIR),
    Call(rests.rest_at, "share fraction", "share mark"),
    Call(rests.is_wider, "share share", "one other", **PAIR),
    Call(rests.wider_paper, "share share", "one other", **PAIR),
    Call(rests.check_wider, "share share paper", "one other paper", **PAIR,
         paper=("table", TABLE)),
    Call(tables.need_table, "table", "thing"),
    Call(tables.left_share, "table", "table"),
    Call(tables.right_share, "table", "table"),
    Call(tables.goes_between, "share share any", "one other value", **PAIR),
    Call(tables.behind, "table table", "table later", later=LATER),
    Call(lefts.crossings, "table", "table"),
    Call(lefts.crossings_back, "table", "table"),
    Call(lefts.left_table, "share share", "one other", **PAIR),
    Call(lefts.right_table, "share share", "one other", **PAIR),
    Call(rewards.value_of, "share share reward table", "one other reward table", **PAIR),
    Call(rewards.least_value, "share share reward", "one other reward", **PAIR),
    Call(rewards.greatest_value, "share share reward", "one other reward", **PAIR),
    Call(rewards.least_paper, "share share reward", "one other reward", **PAIR),
    Call(rewards.greatest_paper, "share share reward", "one other reward", **PAIR),
    Call(rewards.check_least, "share share reward paper", "one other reward paper", **PAIR,
         paper=rewards.least_paper(ONE, WIDE, REWARD)),
    Call(rewards.check_greatest, "share share reward paper", "one other reward paper", **PAIR,
         paper=rewards.greatest_paper(ONE, WIDE, REWARD)),
    Call(rewards.bend_of, "share share reward", "one other reward", **PAIR),
    Call(spans.stretches, "share share", "one other", **PAIR),
    Call(spans.span, "share share near", "one other number", **STEP),
    Call(spans.can_go, "share share near far", "one other number far", **STEP),
    Call(spans.go_paper, "share share near far", "one other number far", **STEP),
    Call(spans.check_go, "share share near far paper", "one other number far paper", **STEP,
         paper=spans.go_paper(ONE, WIDE, whole(1), whole(0))),
    Call(spans.pieces, "share share", "one other", **PAIR),
    Call(spans.fixed_share, "share share", "one other", **PAIR),
    Call(scores.need_score, "score", "thing"),
    Call(scores.plain, "score", "score"),
    Call(scores.are_like, "score score", "score far", far=SCORE[::-1]),
    Call(scores.squares, "fraction fraction", "low high", high=(2, 1)),
    Call(scores.bend_at, "score fraction", "score number"),
    Call(worths.weighed_rest, "score share", "score share"),
    Call(worths.sees, "score share", "score share"),
    Call(worths.world_rest, "world fraction", "world mark"),
    Call(worths.weighed_world, "score world", "score world"),
    Call(worths.step_cost, "score table", "score table"),
    Call(worths.mark_of, "score share share", "score one other", **PAIR),
    Call(tellers.need_guesses, "world guesses", "world thing"),
    Call(tellers.charge, "world guesses fraction", "world guesses mark"),
    Call(tellers.loss, "world guesses score", "world guesses score"),
    Call(tellers.own_guesses, "world guesses", "world guesses"),
    Call(tellers.is_own, "world guesses", "world guesses"),
    Call(tellers.parts, "world guesses score", "world guesses score"),
    Call(ladders.need_ladder, "ladder", "thing"),
    Call(ladders.as_score, "ladder", "ladder"),
    Call(ladders.ladder_of, "score", "score"),
    Call(moves.position, "ladder fraction fraction", "ladder report later"),
    Call(moves.paid, "ladder fraction fraction", "ladder report later"),
    Call(moves.earned, "ladder fraction fraction fraction", "ladder report later worth"),
    Call(moves.loss_at, "ladder fraction fraction", "ladder report worth"),
    Call(moves.greatest_loss, "ladder fraction fraction fraction", "ladder report low high",
         high=(2, 1)),
    Call(moves.earns, "ladder fraction share", "ladder report share"),
    Call(moves.mark_by, "ladder share share", "ladder one other", **PAIR),
    Call(houses.need_houses, "houses", "thing"),
    Call(houses.bids, "houses", "houses"),
    Call(houses.asks, "houses", "houses"),
    Call(houses.are_deals, "houses any", "houses value", value=DEALS),
    Call(houses.gain_of, "houses deals", "houses deals"),
    Call(houses.greatest_gain, "houses", "houses"),
    Call(houses.gain_paper, "houses", "houses"),
    Call(houses.check_gain, "houses paper", "houses paper", paper=(DEALS, whole(3))),
    Call(laddersback.need_points, "points", "thing"),
    Call(laddersback.line_at, "points fraction", "points worth"),
    Call(laddersback.ladder_back, "points fraction", "points report"),
    Call(laddersback.points_of, "ladder fraction", "ladder report"),
    Call(orders.need_ties, "world ties", "world thing"),
    Call(orders.is_below, "world ties state state", "world ties state other"),
    Call(orders.up_lots, "world ties", "world ties"),
    Call(orders.are_within, "world ties ties", "world ties far", far=((0, 1),)),
    Call(orders.common_ties, "world ties ties", "world ties far", far=((0, 1),)),
    Call(orders.put_ties, "world ties ties", "world ties far", far=((0, 1),)),
    Call(onetables.do_rise, "world ties guesses", "world ties guesses"),
    Call(onetables.best_guesses, "world ties", "world ties"),
    Call(onetables.gain_at, "world fraction event", "world mark lot"),
    Call(onetables.best_lot, "world ties fraction", "world ties mark"),
    Call(onetables.does_view_rise, "world ties view", "world ties view"),
    Call(onetables.level_view, "world ties", "world ties"),
    Call(onetables.level_paper, "world ties view", "world ties view"),
    Call(onetables.check_level, "world ties view paper", "world ties view paper",
         view=((0, 1, 2),), paper=("mark", (1, 1), (1, 2))),
    Call(flows.flow_of, "world ties", "world ties"),
    Call(flows.guesses_paper, "world ties guesses", "world ties guesses"),
    Call(flows.check_guesses, "world ties guesses paper", "world ties guesses paper",
         paper=("fall", 0, 1)),
    Call(ordersback.chain_of, "world view", "world view"),
    Call(ordersback.chain_ties, "world view", "world view"),
    Call(ordersback.all_views, "world", "world"),
    Call(ordersback.all_level_shares, "world", "world"),
    Call(dayviews.need_row, "world row", "world thing"),
    Call(dayviews.path_of, "world row state", "world row state"),
    Call(dayviews.fair_of, "world row", "world row"),
    Call(ownviews.own_views, "world row", "world row"),
    Call(ownviews.is_own, "world row", "world row"),
    Call(fairshares.need_fair, "fair", "thing"),
    Call(fairshares.many_days, "fair", "fair"),
    Call(fairshares.day_share, "fair day", "fair day"),
    Call(fairshares.day_table, "fair day", "fair day"),
    Call(fairshares.leave_out, "fair day", "fair day"),
    Call(fairshares.chained, "chain", "chain"),
    Call(fairshares.fair_by, "shares", "shares"),
    Call(tellback.world_of, "fair", "fair"),
    Call(tellback.row_of, "fair", "fair"),
    Call(between.can_be_between, "share share share", "one share other", share=ONE, **PAIR),
    Call(between.view_between, "world view view share", "world view other share",
         view=((0, 1, 2),), other=((0,), (1,), (2,)), share=views.share_of(WORLD, VIEW)),
    Call(known.need_known, "known", "thing"),
    Call(known.rows_of, "known", "known"),
    Call(known.beginnings, "known", "known"),
    Call(known.is_fair_of, "known any", "known value"),
    Call(known.need_claim, "known claim", "known thing"),
    Call(known.mean_by, "known fair_of claim", "known fair claim", fair=fairshares.fair_by(KNOWN)),
    Call(holdings.pays, "known holding", "known holding"),
    Call(holdings.cost, "known holding", "known holding"),
    Call(bounds.least_mean, "known claim", "known claim"),
    Call(bounds.greatest_mean, "known claim", "known claim"),
    Call(bounds.least_means_paper, "known claim", "known claim"),
    Call(bounds.greatest_means_paper, "known claim", "known claim"),
    Call(bounds.check_least_mean, "known claim paper", "known claim paper",
         paper=bounds.least_means_paper(KNOWN, CLAIM)),
    Call(bounds.check_greatest_mean, "known claim paper", "known claim paper",
         paper=bounds.greatest_means_paper(KNOWN, CLAIM)),
    Call(neighbours.claim_of, "known pairs", "known pairs"),
    Call(neighbours.least_of, "known pairs", "known pairs"),
    Call(neighbours.greatest_of, "known pairs", "known pairs"),
    Call(neighbours.low_chain, "known", "known"),
    Call(neighbours.high_chain, "known", "known"),
    Call(market.is_gain, "share share any", "one other value", **PAIR),
    Call(market.gain_by, "share share paper", "one other paper", one=WIDE, other=ONE,
         paper=("mark", whole(1))),
    Call(market.paper_by, "share share gain", "one other gain", one=WIDE, other=ONE),
    Call(market.above, "share fraction", "share mark"),
    Call(books.need_book, "known book", "known thing"),
    Call(books.does_keep, "known fair_of book", "known fair book", fair=fairshares.fair_by(KNOWN)),
    Call(books.hedge_pays, "known book hedge", "known book hedge"),
    Call(books.hedge_cost, "known book hedge", "known book hedge"),
    Call(books.book_paper, "known book", "known book"),
    Call(books.check_book, "known book paper", "known book paper",
         paper=books.book_paper(KNOWN, BOOK)),
    Call(books.least_under, "known book claim", "known book claim"),
    Call(books.greatest_under, "known book claim", "known book claim"),
    Call(books.under_paper, "known book claim", "known book claim"),
    Call(books.check_under, "known book claim paper", "known book claim paper",
         paper=books.under_paper(KNOWN, BOOK, CLAIM)),
    Call(toldclaims.is_told, "known claim", "known claim"),
    Call(toldclaims.reached, "known", "known"),
    Call(toldclaims.replica, "known claim", "known claim"),
    Call(looks.need_look, "look", "thing"),
    Call(looks.share_by, "look prior", "look prior"),
    Call(looks.look_of, "case", "case"),
    Call(looks.is_plain, "look", "look"),
    Call(looks.plain, "look", "look"),
    Call(looks.both_of, "look look", "look other", other=LOOK),
    Call(looks.view_look, "world view", "world view", world=CASE_WORLD),
    Call(blurs.is_blur, "look look any", "look other value", value=BLUR),
    Call(blurs.is_had, "look look", "look other", other=LESS),
    Call(blurs.blur_paper, "look look", "look other", other=LESS),
    Call(blurs.check_blur, "look look paper", "look other paper", other=LESS,
         paper=("blur", BLUR)),
    Call(blurs.blurred, "look rows", "look rows"),
    Call(blurs.blur_by, "table", "table", table=CASE_TABLE),
    Call(blurs.table_by, "look look blur prior", "look other blur prior", other=LESS),
    Call(blurs.view_blur, "world view view", "world view other", world=CASE_WORLD,
         view=((0,), (1,), (2,)), other=VIEW),
    Call(decisions.need_decision, "decision", "thing"),
    Call(decisions.worth_for, "look prior decision", "look prior decision"),
    Call(decisions.line_of, "decision", "decision"),
    Call(decisions.bends, "decision", "decision"),
    Call(decisions.of_mark, "fraction", "mark"),
    Call(decisions.mark_by, "look look prior decision", "look other prior decision", look=LESS,
         other=LOOK),
    Call(polygons.corners, "look", "look"),
    Call(polygons.line_at, "look at", "look at"),
    Call(polygons.is_over, "look look", "look other", other=LESS),
    Call(polygons.over_paper, "look look", "look other", other=LESS),
    Call(polygons.check_over, "look look paper", "look other paper", look=LESS, other=LOOK,
         paper=("corner", 1)),
    Call(runs.runs, "length", "length"),
    Call(runs.whole_runs, "length", "length"),
    Call(runs.need_forecaster, "length forecaster", "length thing"),
    Call(runs.is_exact, "length forecaster", "length forecaster"),
    Call(runs.is_mild, "length forecaster", "length forecaster"),
    Call(runs.chance, "length forecaster chances run", "length forecaster chances run"),
    Call(runs.mean_by, "length forecaster chances payoff", "length forecaster chances payoff"),
    Call(bets.capital, "length forecaster fraction bets run", "length forecaster start bets run"),
    Call(bets.is_safe, "length forecaster fraction bets", "length forecaster start bets"),
    Call(bets.do_bring, "length forecaster fraction bets payoff",
         "length forecaster start bets payoff"),
    Call(bets.mix, "length bets bets part", "length bets others part", others=BETS[::-1]),
    Call(bets.scaled, "length bets fraction", "length bets factor"),
    Call(prices.price, "length forecaster payoff", "length forecaster payoff"),
    Call(prices.sale, "length forecaster payoff", "length forecaster payoff"),
    Call(prices.prices_behind, "length forecaster payoff", "length forecaster payoff"),
    Call(prices.price_paper, "length forecaster payoff", "length forecaster payoff"),
    Call(prices.check_price, "length forecaster payoff paper", "length forecaster payoff paper",
         paper=prices.price_paper(2, FORECASTER, PAYOFF)),
    Call(ville.goal_payoff, "length goal", "length goal"),
    Call(ville.lever, "length forecaster aim", "length forecaster goal"),
    Call(ville.reached, "length forecaster safe multiple", "length forecaster bets times",
         times=(5, 4)),
    Call(ville.stopped, "length forecaster safe multiple", "length forecaster bets times",
         times=(5, 4)),
    Call(takes.is_joint, "share alike any", "one other value", value=JOINT),
    Call(takes.take_by, "share alike stakes joint", "one other stakes joint"),
    Call(takes.least_take, "share alike stakes", "one other stakes"),
    Call(takes.take_paper, "share alike stakes", "one other stakes"),
    Call(takes.check_take, "share alike stakes paper", "one other stakes paper",
         paper=takes.take_paper(ONE, WIDE, (whole(1), whole(-2)))),
    Call(takes.stakes_by, "share alike", "one other", other=share_of_integers((0, 8))),
    Call(rivals.rival_bets, "length mild mild", "length forecaster rival",
         forecaster=wrongs.MILD),
    Call(rivals.rival_capital, "length mild mild run", "length forecaster rival run",
         forecaster=wrongs.MILD),
    Call(rivals.blend, "length several parts", "length some parts"),
    Call(rivals.leaders, "length several run", "length some run"),
    Call(sides.is_sides, "any", "thing", thing="market"),
    Call(sides.check_side, "share share paper", "one other paper", **PAIR,
         paper=("table", "yes", TABLE)),
    Call(hub.hub_of, "share share paper", "one other paper", **PAIR,
         paper=("days", "yes", fairshares.fair_by(KNOWN))),
    # The HUB comes behind the SIDE: so it is no argument in its turn.
    Call(hub.side_by, "share share any side", "one other hub side", **PAIR, hub=("table", TABLE)),
    Call(turn.side_paper, "share share side", "one other side", **PAIR),
    Call(turn.turned, "share share any side", "one other paper side", one=WIDE, other=ONE,
         paper=("views", "no", ("mark", whole(1)))),
    Call(turn.tour, "share share", "one other", one=WIDE, other=ONE),
    Call(terms.need_term, "term", "thing"),
    Call(terms.world_of, "term", "term"),
    Call(terms.plain_share, "world", "world"),
    Call(terms.kids_of, "term", "term"),
    Call(viewwords.view_of, "world words", "world words"),
    Call(retell.spreads_of, "share share", "one other", **PAIR),
    Call(retell.pools_of, "share share", "one other", **PAIR),
    Call(house.House, "world views ladder fraction", "world views ladder first"),
    Call(texts.term_text, "term", "term"),
    Call(texts.words_text, "world words", "world words"),
    Call(texts.read_term, "text", "text", text=texts.term_text(TERM)),
    Call(texts.read_words, "world text", "world text"),
    Call(judge.judged, "text", "text", text=SHEET),
    Call(desk.Desk, "text", "text", text=DESK),
)

# What the interface lists under each file.
LISTED = {
    ratios: "need_fraction ratio plus less times over is_less ordered",
    views: "need_world need_view mean_of forecasts share_of join_of meet_of core is_finer "
           "finer_paper check_finer view_by",
    knows: "does_know known_times common depth common_paper check_common",
    agree: "agreed takes gives bet_way check_bet",
    talks: "round_talk last_public check_talk Talk under",
    coarser: "coarser_views coarser_shares coarser_with",
    shares: "need_share total moment put_together",
    rests: "rest_at is_wider wider_paper check_wider",
    tables: "need_table left_share right_share goes_between behind",
    lefts: "crossings crossings_back left_table right_table",
    rewards: "value_of least_value greatest_value least_paper greatest_paper check_least "
             "check_greatest bend_of",
    spans: "stretches span can_go go_paper check_go pieces fixed_share",
    scores: "need_score plain are_like squares bend_at",
    worths: "weighed_rest sees world_rest weighed_world step_cost mark_of",
    tellers: "need_guesses charge loss own_guesses is_own parts",
    ladders: "need_ladder as_score ladder_of",
    moves: "position paid earned loss_at greatest_loss earns mark_by",
    houses: "need_houses bids asks are_deals gain_of greatest_gain gain_paper check_gain",
    laddersback: "need_points line_at ladder_back points_of",
    orders: "need_ties is_below up_lots are_within common_ties put_ties",
    onetables: "do_rise best_guesses gain_at best_lot does_view_rise level_view level_paper "
               "check_level",
    flows: "flow_of guesses_paper check_guesses",
    ordersback: "chain_of chain_ties all_views all_level_shares",
    dayviews: "need_row path_of fair_of",
    ownviews: "own_views is_own",
    fairshares: "need_fair many_days day_share day_table leave_out chained fair_by",
    tellback: "world_of row_of",
    between: "can_be_between view_between",
    known: "need_known rows_of beginnings is_fair_of need_claim mean_by",
    holdings: "pays cost",
    bounds: "least_mean greatest_mean least_means_paper greatest_means_paper check_least_mean "
            "check_greatest_mean",
    neighbours: "claim_of least_of greatest_of low_chain high_chain",
    market: "is_gain gain_by paper_by above",
    books: "need_book does_keep hedge_pays hedge_cost book_paper check_book least_under "
           "greatest_under under_paper check_under",
    toldclaims: "is_told reached replica",
    looks: "need_look share_by look_of is_plain plain both_of view_look",
    blurs: "is_blur is_had blur_paper check_blur blurred blur_by table_by view_blur",
    decisions: "need_decision worth_for line_of bends of_mark mark_by",
    polygons: "corners line_at is_over over_paper check_over",
    runs: "runs whole_runs need_forecaster is_exact is_mild chance mean_by",
    bets: "capital is_safe do_bring mix scaled",
    prices: "price sale prices_behind price_paper check_price",
    ville: "goal_payoff lever reached stopped",
    takes: "is_joint take_by least_take take_paper check_take stakes_by",
    rivals: "rival_bets rival_capital blend leaders",
    sides: "is_sides check_side",
    hub: "hub_of side_by",
    turn: "side_paper turned tour",
    terms: "need_term world_of plain_share kids_of",
    viewwords: "view_of",
    retell: "spreads_of pools_of",
    house: "House under",
    texts: "term_text words_text read_term read_words",
    judge: "judged",
    desk: "Desk"}

# What tells a number of a part, or else a word or None: the function that needs it, and how many
# parts there are at least and at most.
PARTED = {"world": (views.need_world, 1, 36), "score": (scores.need_score, 0, 10),
          "ladder": (ladders.need_ladder, 0, 10), "houses": (houses.need_houses, 1, 6),
          "book": (lambda thing: books.need_book(KNOWN, thing), 0, 6)}

# Where anything that is a pair has the form of a PAPER.
PAIRS = (agree.check_bet, houses.check_gain, bounds.check_least_mean, bounds.check_greatest_mean,
         books.check_under, prices.check_price)


def wanted_part(kind, thing):
    """Which part is told to be wrong."""
    need, least, most = PARTED[kind]
    if not isinstance(thing, tuple) or not least <= len(thing) <= most:
        return "form" if kind == "world" else None
    return next(at for at in range(len(thing)) if not is_right(need, thing[:at + 1]))


def wanted_fields(kind, thing):
    """The fields of the error that is due."""
    if kind == "paper":
        return {"part": "form"}
    if kind in PARTED:
        return {"part" if kind == "world" else "number": wanted_part(kind, thing)}
    if kind in ("term", "words"):
        return {"path": ()}
    if kind == "text":
        place = 0 if isinstance(thing, str) else None
        return {"line": place, "word": place}
    if kind == "shares" and isinstance(thing, tuple) and 0 < len(thing) < 4:
        return {"given": next(part for part in thing if not shares.is_share(part))}
    if kind == "several" and isinstance(thing, tuple) and 0 < len(thing) < 5:
        return {"given": next(part for part in thing if not rivals.is_mild_one(2, part))}
    return {"given": thing}


def is_right(need, thing):
    try:
        need(thing)
    except errors.ForeError:
        return False
    return True
