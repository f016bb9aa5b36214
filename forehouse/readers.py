"""Texts read line by line, and lines read word by word."""

from forehouse.errors import BadText

MOST_FIGURES = 31
FIGURES = "0123456789"


def is_number_word(word):
    """Whether it is an integer without "-"."""
    if not 0 < len(word) <= MOST_FIGURES or not all([figure in FIGURES for figure in word]):
        return False
    return word == "0" or word[0] != "0"


def is_integer_word(word):
    if word.startswith("-"):
        return word != "-0" and is_number_word(word[1:])
    return is_number_word(word)


def is_fraction_word(word):
    if "/" not in word:
        return is_integer_word(word)
    top, _, bottom = word.partition("/")
    return is_integer_word(top) and is_number_word(bottom) and bottom != "0"


def pair_in(word):
    """The pair of integers of a word for a FRACTION, perhaps not in least terms."""
    top, _, bottom = word.partition("/")
    return (int(top), int(bottom) if bottom else 1)


class Line:
    """A line that is read word by word."""

    def __init__(self, number, text):
        self.number = number
        self.words = text.split(" ")
        self.place = 0

    def refuse(self):
        """The next word cannot stand there, or is lacking."""
        raise BadText(self.number, self.place)

    def has_more(self):
        return self.place < len(self.words)

    def next_that(self, is_right):
        """The next word, which has to be right."""
        if not self.has_more() or not is_right(self.words[self.place]):
            self.refuse()
        self.place = self.place + 1
        return self.words[self.place - 1]

    def next_of(self, words):
        """The next word, which has to be one of these; told as it stands there."""
        if not self.has_more() or self.words[self.place] not in words:
            self.refuse()
        self.place = self.place + 1
        return words[words.index(self.words[self.place - 1])]

    def next_number(self):
        return int(self.next_that(is_number_word))

    def next_integer(self):
        return int(self.next_that(is_integer_word))

    def next_pair(self):
        return pair_in(self.next_that(is_fraction_word))

    def next_many(self, least, most):
        """How many there are of something."""
        if not self.has_more() or not is_number_word(self.words[self.place]):
            self.refuse()
        many = int(self.words[self.place])
        if not least <= many <= most:
            self.refuse()
        self.place = self.place + 1
        return many

    def finish(self):
        if self.has_more():
            self.refuse()


def lines_of(text):
    """The lines of a text, none of them read yet."""
    if not isinstance(text, str):
        raise BadText(None, None)
    return [Line(number, line) for number, line in enumerate(text.split("\n"))]


def line_numbered(lines, number):
    """The line that has to come there."""
    if number == len(lines):
        raise BadText(number, 0)
    return lines[number]


def need_no_more(lines, many):
    """Raises the error of a line too many."""
    if len(lines) > many:
        raise BadText(many, 0)
