"""Small things of all sorts for the tests, the same ones in each run."""

from fractions import Fraction

from forehouse.cells import grouped
from forehouse.exact import added, divided, in_order, made, multiplied, taken
from forehouse.shares import pairs_in_order


class Maker:
    """Makes things by a row of numbers that hangs on its seed alone."""

    def __init__(self, seed):
        self.state = seed * 7919 + 17

    def below(self, many):
        self.state = (self.state * 6364136223846793005 + 1442695040888963407) % 2 ** 64
        return (self.state >> 33) % many

    def between(self, low, high):
        return low + self.below(high - low + 1)

    def pick(self, things):
        return things[self.below(len(things))]

    def fraction(self, low=-4, high=4, bottom=3):
        return made(self.between(low, high), self.between(1, bottom))

    def weight(self):
        return made(self.between(1, 5), self.between(1, 3))

    def fractions(self, many, low=-4, high=4):
        return tuple(self.fraction(low, high) for _ in range(many))

    def world(self, most=6):
        return tuple((self.weight(), self.fraction()) for _ in range(self.between(1, most)))

    def view(self, many):
        return grouped([self.below(self.between(1, many)) for _ in range(many)])

    def lot(self, many):
        return tuple(state for state in range(many) if self.below(2))

    def share(self, most=4):
        pairs = {self.fraction(): True for _ in range(self.between(1, most))}
        return tuple((number, self.weight()) for number in in_order(list(pairs)))

    def split(self, number, weight):
        """One NUMBER, or two with the same mean, with this WEIGHT together."""
        down = self.pick([(0, 1), (1, 2), (1, 1), (2, 1), (5, 3)])
        up = self.pick([(1, 1), (1, 3), (2, 1)])
        if down == (0, 1):
            return [(number, weight)]
        part = divided(up, added(down, up))
        return [(taken(number, down), multiplied(weight, part)),
                (added(number, up), multiplied(weight, taken((1, 1), part)))]

    def wider(self, share):
        """A SHARE of at most 6 pairs that is WIDER."""
        while True:
            pairs = []
            for number, weight in share:
                pairs.extend(self.split(number, weight))
            wide = pairs_in_order(pairs)
            if len(wide) <= 6:
                return wide

    def two(self, most=4):
        """A SHARE and a WIDER one."""
        share = self.share(most)
        wide = self.wider(share)
        return share, self.wider(wide) if self.below(2) else wide

    def score(self, most=4):
        pieces = []
        for _ in range(self.below(most + 1)):
            price = made(self.below(4), self.between(1, 3))
            if self.below(2):
                pieces.append(("mark", self.fraction(), price))
            else:
                low = self.fraction()
                pieces.append(("stretch", low, added(low, self.weight()), price))
        return tuple(pieces)

    def ladder(self, most=4):
        marks = {self.fraction(): True for _ in range(self.below(most + 1))}
        return tuple((mark, self.weight()) for mark in in_order(list(marks)))

    def reward(self, one, other):
        return tuple(tuple(self.between(-9, 9) for _ in other) for _ in one)


def worth(fraction):
    return Fraction(fraction[0], fraction[1])


def pair_of(number):
    number = Fraction(number)
    return (number.numerator, number.denominator)


def whole(number):
    return (number, 1)


def share_of_integers(*pairs):
    """A SHARE of integer NUMBERS and WEIGHTS."""
    return tuple((whole(number), whole(weight)) for number, weight in pairs)


def world_of_integers(*pairs):
    """A WORLD of integer WEIGHTS and WORTHS."""
    return tuple((whole(weight), whole(number)) for weight, number in pairs)


def rest(share, mark):
    """The REST reckoned by the words of the document."""
    mark = Fraction(mark)
    return sum((worth(weight) * (worth(number) - mark) for number, weight in share
                if worth(number) > mark), Fraction(0))


def is_wider_by_rests(one, other):
    """WIDER reckoned by the words of the document, at many MARKS."""
    marks = sorted({worth(number) for number, _ in one + other})
    marks += [(low + high) / 2 for low, high in zip(marks, marks[1:])]
    totals = [sum(worth(weight) for _, weight in share) for share in (one, other)]
    moments = [sum(worth(weight) * worth(number) for number, weight in share)
               for share in (one, other)]
    if totals[0] != totals[1] or moments[0] != moments[1]:
        return False
    return all(rest(one, mark) <= rest(other, mark) for mark in marks)
