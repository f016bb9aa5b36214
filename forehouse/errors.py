"""All errors of the package."""


class ForeError(ValueError):
    """What is refused."""


class BadWorld(ForeError):
    """What is no WORLD."""

    def __init__(self, part):
        self.part = part


class BadPaper(ForeError):
    """What is no PAPER that holds."""

    def __init__(self, part):
        self.part = part


class BadScore(ForeError):
    """What is no SCORE."""

    def __init__(self, number):
        self.number = number


class BadLadder(ForeError):
    """What is no LADDER."""

    def __init__(self, number):
        self.number = number


class BadHouses(ForeError):
    """What are no HOUSES."""

    def __init__(self, number):
        self.number = number


class BadBook(ForeError):
    """What is no BOOK."""

    def __init__(self, number):
        self.number = number


class BadTerm(ForeError):
    """What is no TERM."""

    def __init__(self, path):
        self.path = path


class BadWords(ForeError):
    """What are no VIEW WORDS."""

    def __init__(self, path):
        self.path = path


class BadText(ForeError):
    """What is no text of something."""

    def __init__(self, line, word):
        self.line = line
        self.word = word


class NotWider(ForeError):
    """A SHARE that is not WIDER than the one ahead of it."""

    def __init__(self, paper):
        self.paper = paper


class SureGain(ForeError):
    """A BOOK that no FAIR SHARE keeps."""

    def __init__(self, paper):
        self.paper = paper


class BadBet(ForeError):
    """What is no BET."""

    def __init__(self, given):
        self.given = given


class BadBlur(ForeError):
    """What is no BLUR."""

    def __init__(self, given):
        self.given = given


class BadBounds(ForeError):
    """Two bounds of which the low one is too great."""

    def __init__(self, given):
        self.given = given


class BadCase(ForeError):
    """What is no CASE SHARE, or no CASE WORLD."""

    def __init__(self, given):
        self.given = given


class BadChances(ForeError):
    """What are no CHANCES."""

    def __init__(self, given):
        self.given = given


class BadClaim(ForeError):
    """What is no CLAIM."""

    def __init__(self, given):
        self.given = given


class BadDay(ForeError):
    """What is no number of a day."""

    def __init__(self, given):
        self.given = given


class BadDeals(ForeError):
    """What are no EVEN DEALS."""

    def __init__(self, given):
        self.given = given


class BadDecision(ForeError):
    """What is no DECISION."""

    def __init__(self, given):
        self.given = given


class BadEvent(ForeError):
    """What is no EVENT, no LOT or no CELL."""

    def __init__(self, given):
        self.given = given


class BadFair(ForeError):
    """What is no FAIR SHARE."""

    def __init__(self, given):
        self.given = given


class BadForecaster(ForeError):
    """What is no FORECASTER."""

    def __init__(self, given):
        self.given = given


class BadFraction(ForeError):
    """What is no FRACTION."""

    def __init__(self, given):
        self.given = given


class BadFractions(ForeError):
    """What is no tuple of FRACTIONS."""

    def __init__(self, given):
        self.given = given


class BadGain(ForeError):
    """What is no GAIN."""

    def __init__(self, given):
        self.given = given


class BadGoal(ForeError):
    """What is no GOAL."""

    def __init__(self, given):
        self.given = given


class BadGuesses(ForeError):
    """What are no GUESSES."""

    def __init__(self, given):
        self.given = given


class BadHand(ForeError):
    """What is no number of a hand."""

    def __init__(self, given):
        self.given = given


class BadHolding(ForeError):
    """What is no HOLDING, or no HEDGE."""

    def __init__(self, given):
        self.given = given


class BadKnown(ForeError):
    """What is not KNOWN."""

    def __init__(self, given):
        self.given = given


class BadLook(ForeError):
    """What is no LOOK."""

    def __init__(self, given):
        self.given = given


class BadNumber(ForeError):
    """What is no integer, or no NUMBER, as it is wanted."""

    def __init__(self, given):
        self.given = given


class BadParts(ForeError):
    """What is no PART, or no PARTS."""

    def __init__(self, given):
        self.given = given


class BadPayoff(ForeError):
    """What is no PAYOFF."""

    def __init__(self, given):
        self.given = given


class BadPoints(ForeError):
    """What are no POINTS."""

    def __init__(self, given):
        self.given = given


class BadPrior(ForeError):
    """What is no PRIOR."""

    def __init__(self, given):
        self.given = given


class BadReward(ForeError):
    """What is no REWARD, or no PAIR CLAIM."""

    def __init__(self, given):
        self.given = given


class BadRow(ForeError):
    """What is no ROW, or no CHAIN."""

    def __init__(self, given):
        self.given = given


class BadRun(ForeError):
    """What is no RUN."""

    def __init__(self, given):
        self.given = given


class BadSaid(ForeError):
    """What a hand cannot say."""

    def __init__(self, given):
        self.given = given


class BadShare(ForeError):
    """What is no SHARE."""

    def __init__(self, given):
        self.given = given


class BadSide(ForeError):
    """What is no SIDE."""

    def __init__(self, given):
        self.given = given


class BadStakes(ForeError):
    """What are no STAKES, or no BETS."""

    def __init__(self, given):
        self.given = given


class BadState(ForeError):
    """What is no number of a STATE."""

    def __init__(self, given):
        self.given = given


class BadTable(ForeError):
    """What is no TABLE, or no JOINT."""

    def __init__(self, given):
        self.given = given


class BadTies(ForeError):
    """What are no TIES."""

    def __init__(self, given):
        self.given = given


class BadTimes(ForeError):
    """What are no TIMES."""

    def __init__(self, given):
        self.given = given


class BadView(ForeError):
    """What is no VIEW."""

    def __init__(self, given):
        self.given = given


class BadViews(ForeError):
    """What are no VIEWS."""

    def __init__(self, given):
        self.given = given


class TooMany(OverflowError):
    """More than the most that there may be."""

    def __init__(self, most):
        self.most = most


class Missing(KeyError):
    """What is not there."""

    def __init__(self, given):
        self.given = given


class NothingLeft(RuntimeError):
    """Fewer deeds than are to be taken back."""

    def __init__(self, many):
        self.many = many
