"""What is led, and can be taken back: its past is a tuple of deeds."""

from forehouse.errors import BadNumber, NothingLeft
from forehouse.kinds import is_integer


class Trial:
    """Lets what is led go on for a while, and puts it back behind that."""

    def __init__(self, led):
        self._led = led
        self._begun = ()

    def __enter__(self):
        self._begun = self._led._past
        return self._led

    def __exit__(self, kind, value, trace):
        self._led._past = self._begun
        return False


def shortened(past, many):
    """A past without so many deeds, the last ones."""
    if not is_integer(many) or many < 1:
        raise BadNumber(many)
    if many > len(past):
        raise NothingLeft(many)
    return past[:len(past) - many]
