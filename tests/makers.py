"""Small things of all sorts for the tests, the same ones in each run."""

from fractions import Fraction
from itertools import product
from math import prod

from forehouse.cells import grouped, joined, share_by
from forehouse.dayviews import fair_of
from forehouse.exact import added, added_up, divided, in_order, made, multiplied, taken
from forehouse.shares import pairs_in_order


class Maker:
    """Makes things by a row of numbers that hangs on its seed alone."""

    def __init__(self, seed):
        self.state = seed * 7919 + 17

    def below(self, many):
        self.state = (self.state * 6364136223846793005 + 1442695040888963407) % 2 ** 64
        return (self.state >> 33) % many

    def between(self, low, high):
        return low + self.below(high - low + 1)

    def pick(self, things):
        return things[self.below(len(things))]

    def fraction(self, low=-4, high=4, bottom=3):
        return made(self.between(low, high), self.between(1, bottom))

    def weight(self):
        return made(self.between(1, 5), self.between(1, 3))

    def fractions(self, many, low=-4, high=4):
        return tuple(self.fraction(low, high) for _ in range(many))

    def world(self, most=6):
        return tuple((self.weight(), self.fraction()) for _ in range(self.between(1, most)))

    def view(self, many):
        return grouped([self.below(self.between(1, many)) for _ in range(many)])

    def lot(self, many):
        return tuple(state for state in range(many) if self.below(2))

    def share(self, most=4):
        pairs = {self.fraction(): True for _ in range(self.between(1, most))}
        return tuple((number, self.weight()) for number in in_order(list(pairs)))

    def split(self, number, weight):
        """One NUMBER, or two with the same mean, with this WEIGHT together."""
        down = self.pick([(0, 1), (1, 2), (1, 1), (2, 1), (5, 3)])
        up = self.pick([(1, 1), (1, 3), (2, 1)])
        if down == (0, 1):
            return [(number, weight)]
        part = divided(up, added(down, up))
        return [(taken(number, down), multiplied(weight, part)),
                (added(number, up), multiplied(weight, taken((1, 1), part)))]

    def wider(self, share):
        """A SHARE of at most 6 pairs that is WIDER."""
        while True:
            pairs = []
            for number, weight in share:
                pairs.extend(self.split(number, weight))
            wide = pairs_in_order(pairs)
            if len(wide) <= 6:
                return wide

    def two(self, most=4):
        """A SHARE and a WIDER one."""
        share = self.share(most)
        wide = self.wider(share)
        return share, self.wider(wide) if self.below(2) else wide

    def score(self, most=4):
        pieces = []
        for _ in range(self.below(most + 1)):
            price = made(self.below(4), self.between(1, 3))
            if self.below(2):
                pieces.append(("mark", self.fraction(), price))
            else:
                low = self.fraction()
                pieces.append(("stretch", low, added(low, self.weight()), price))
        return tuple(pieces)

    def ladder(self, most=4):
        marks = {self.fraction(): True for _ in range(self.below(most + 1))}
        return tuple((mark, self.weight()) for mark in in_order(list(marks)))

    def houses(self, most=3):
        return tuple((self.ladder(), self.fraction()) for _ in range(self.between(1, most)))

    def ties(self, many):
        """TIES that go up a row of all STATES, whichever row."""
        row = list(range(many))
        for at in range(many - 1):
            other = self.between(at, many - 1)
            row[at], row[other] = row[other], row[at]
        odds = self.between(1, 4)
        pairs = [(low, high) for at, low in enumerate(row) for high in row[at + 1:]
                 if self.below(odds) == 0]
        return tuple(sorted(pairs))

    def row(self, many, most=3):
        """VIEWS of so many STATES, each finer than the one ahead."""
        row = [self.view(many)]
        for _ in range(self.below(most)):
            row.append(joined((row[-1], self.view(many))))
        return tuple(row)

    def fair(self, most=6):
        """A FAIR SHARE, some NUMBERS of which come in several PATHS."""
        world = tuple((self.weight(), whole(self.between(0, 3))) for _ in range(self.between(1, most)))
        return fair_of(world, self.row(len(world)))

    def known(self, most=6, days=3):
        """SHARES of 1 to 3 days with at most 36 rows."""
        while True:
            many = self.pick((self.between(1, most), most - 1, most))
            world = tuple((self.weight(), self.fraction(bottom=2)) for _ in range(many))
            row = [grouped([self.below(self.between(1, 3)) for _ in range(many)])]
            for _ in range(max(self.below(days), self.below(days))):
                last = self.pick((self.view(many), grouped(range(many))))
                row.append(joined((row[-1], last)))
            known = tuple(share_by(world, view) for view in row)
            if prod(len(share) for share in known) <= 36:
                return known

    def claim(self, known, least=-9, most=9):
        many = prod(len(share) for share in known)
        return tuple(self.between(least, most) for _ in range(many))

    def book(self, known, most=3):
        return tuple((self.claim(known, -3, 3), self.pick((None, self.between(-3, 1))),
                      self.pick((None, self.between(1, 3)))) for _ in range(self.below(most + 1)))

    def look(self, most=4):
        """A LOOK, with some SIGNALS that never come if yes, or if no."""
        while True:
            many = self.between(1, most)
            yes = [self.below(4) for _ in range(many)]
            no = [self.below(4) for _ in range(many)]
            if sum(yes) and sum(no) and all(y + n for y, n in zip(yes, no)):
                return tuple((made(y, sum(yes)), made(n, sum(no))) for y, n in zip(yes, no))

    def parting(self, many):
        """So many FRACTIONS from nought on, together 1, some of them nought."""
        parts = [self.below(4) for _ in range(many)]
        parts[self.below(many)] += self.between(1, 3)
        return tuple(made(part, sum(parts)) for part in parts)

    def coarse(self, look, most=4):
        """A LOOK that is had of another one, and the BLUR that leads to it."""
        while True:
            many = self.between(1, most)
            rows = tuple(self.parting(many) for _ in look)
            sums = [[added_up([multiplied(signal[side], row[at]) for signal, row in zip(look, rows)])
                     for side in (0, 1)] for at in range(many)]
            if all(yes[0] or no[0] for yes, no in sums):
                return tuple((yes, no) for yes, no in sums), rows

    def decision(self, most=6):
        """A DECISION, sometimes with DEEDS that are alike."""
        deeds = [self.fractions(2) for _ in range(self.between(1, most))]
        return tuple(self.pick(deeds) for _ in deeds) if self.below(3) == 0 else tuple(deeds)

    def chance(self, least=0):
        """A FRACTION from 0 to 1, or strictly between."""
        return made(self.between(least, 6 - least), 6)

    def forecaster(self, length):
        """A FORECASTER, some of whose RANGES reach 0 or 1, some of one FRACTION."""
        out = []
        for _ in range(2 ** length - 1):
            low, high = in_order([self.chance(), self.chance()])
            out.append((low, low) if self.below(3) == 0 else (low, high))
        return tuple(out)

    def mild(self, length):
        return tuple((part, part) for part in [self.chance(1) for _ in range(2 ** length - 1)])

    def chances(self, forecaster):
        """CHANCES, some of them the LOW or the HIGH of their RANGES."""
        out = []
        for low, high in forecaster:
            part = self.pick(((0, 1), (1, 1), (1, 3)))
            out.append(added(low, multiplied(part, taken(high, low))))
        return tuple(out)

    def goal(self, length):
        return tuple(run for run in product((0, 1), repeat=length) if self.below(3) == 0)

    def alike(self, one, most=4):
        """A SHARE with the TOTAL of another one, whatever its MOMENT."""
        share = self.share(most)
        factor = divided(added_up([weight for _, weight in one]),
                         added_up([weight for _, weight in share]))
        return tuple((number, multiplied(weight, factor)) for number, weight in share)

    def prior(self):
        bottom = self.between(2, 6)
        return made(self.between(1, bottom - 1), bottom)

    def term(self, most=6):
        """A TERM of so many words at most, and how many STATES it has."""
        if most == 1 or self.below(4) == 0:
            world = self.world(4)
            return ("states", world), len(world)
        kind = self.pick(("beside", "scaled", "moved", "split", "spread", "pooled"))
        if kind == "beside":
            one, many = self.term(most // 2)
            other, more = self.term(most - most // 2 - 1 or 1)
            return ("beside", one, other), many + more
        one, many = self.term(most - 1)
        at = self.below(many)
        if kind == "scaled":
            return ("scaled", one, self.weight(), self.fraction()), many
        if kind == "moved":
            return ("moved", one, self.fraction()), many
        if kind == "split":
            parts = tuple(self.weight() for _ in range(self.between(2, 4)))
            return ("split", one, at, parts), many + len(parts) - 1
        if kind == "spread":
            # Farther out than whatever stands within it.
            far = 10 ** (most + 3)
            return ("spread", one, at, whole(-far), whole(far + self.below(9))), many + 1
        return ("pooled", one, self.lot(many) or (at,)), many

    def view_words(self, many, deep=4):
        """VIEW WORDS for a WORLD of so many STATES."""
        kind = self.below(8 if deep > 1 else 5)
        if kind == 3:
            marks = in_order(list({self.fraction(): True for _ in range(self.between(1, 5))}))
            return ("marks", tuple(marks))
        if kind == 4:
            return ("cells", self.view(many))
        if kind < 3:
            return (("none",), ("each",), ("worths",))[kind]
        inner = self.view_words(many, deep - 1)
        if kind == 7:
            return ("core", inner)
        return (("join", "meet")[kind - 5], inner, self.view_words(many, deep - 1))

    def reward(self, one, other):
        return tuple(tuple(self.between(-9, 9) for _ in other) for _ in one)


def worth(fraction):
    return Fraction(fraction[0], fraction[1])


def pair_of(number):
    number = Fraction(number)
    return (number.numerator, number.denominator)


def whole(number):
    return (number, 1)


def share_of_integers(*pairs):
    """A SHARE of integer NUMBERS and WEIGHTS."""
    return tuple((whole(number), whole(weight)) for number, weight in pairs)


def world_of_integers(*pairs):
    """A WORLD of integer WEIGHTS and WORTHS."""
    return tuple((whole(weight), whole(number)) for weight, number in pairs)


def rest(share, mark):
    """The REST reckoned by the words of the document."""
    mark = Fraction(mark)
    return sum((worth(weight) * (worth(number) - mark) for number, weight in share
                if worth(number) > mark), Fraction(0))


def is_wider_by_rests(one, other):
    """WIDER reckoned by the words of the document, at many MARKS."""
    marks = sorted({worth(number) for number, _ in one + other})
    marks += [(low + high) / 2 for low, high in zip(marks, marks[1:])]
    totals = [sum(worth(weight) for _, weight in share) for share in (one, other)]
    moments = [sum(worth(weight) * worth(number) for number, weight in share)
               for share in (one, other)]
    if totals[0] != totals[1] or moments[0] != moments[1]:
        return False
    return all(rest(one, mark) <= rest(other, mark) for mark in marks)
