"""The numbers of releases, and releases."""

from editionlines.bounds import LINES, RELEASES
from editionlines.checks import is_within
from editionlines.errors import BadNumber
from editionlines.papers import Paper, kept_value
from editionlines.words import Words, number_of


def is_number_word(word):
    """Whether a word writes the number of a release."""
    line, _, at = word.partition(".")
    return number_of(line, 1, LINES) is not None and number_of(at, 0, RELEASES - 1) is not None


class Number:
    """The number of a release: that of its line, and how many releases of the line were ahead of it."""

    def __init__(self, line, at):
        if not is_within(line, 1, LINES):
            raise BadNumber(line)
        if not is_within(at, 0, RELEASES - 1):
            raise BadNumber(at)
        self.line = line
        self.at = at

    @classmethod
    def read(cls, text):
        """The number with this text."""
        words = Words(text)
        line, _, at = words.take_by(is_number_word).partition(".")
        words.end()
        return cls(int(line), int(at))

    def __str__(self):
        return f"{self.line}.{self.at}"

    def __eq__(self, other):
        return isinstance(other, Number) and self.line == other.line and self.at == other.at

    def __lt__(self, other):
        if not isinstance(other, Number):
            raise BadNumber(other)
        return (self.line, self.at) < (other.line, other.at)

    def __le__(self, other):
        if not isinstance(other, Number):
            raise BadNumber(other)
        return (self.line, self.at) <= (other.line, other.at)

    def __gt__(self, other):
        if not isinstance(other, Number):
            raise BadNumber(other)
        return (self.line, self.at) > (other.line, other.at)

    def __ge__(self, other):
        if not isinstance(other, Number):
            raise BadNumber(other)
        return (self.line, self.at) >= (other.line, other.at)

    def __add__(self, other):
        if not is_within(other, 0, RELEASES - 1 - self.at):
            raise BadNumber(other)
        return Number(self.line, self.at + other)


class Release(Paper):
    """A release: its number, and what its line had when it was offered."""

    def __init__(self, number, lot):
        self.number = kept_value(number)
        self.lot = kept_value(lot)

    def held(self):
        """The tuple of the values of all attributes."""
        return (self.number, self.lot)

    def __str__(self):
        return f"{self.number} {self.lot}"

    def __bool__(self):
        return True

    def __contains__(self, x):
        return x in self.lot

    def __len__(self):
        return len(self.lot)

    def __iter__(self):
        return iter(self.lot)
