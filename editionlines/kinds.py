"""Kinds of standings, and the features that standings tell."""

from editionlines.checks import is_within
from editionlines.errors import BadStanding
from editionlines.words import Words

FEATURES = ("open", "past", "last", "live", "tries")
MOST = 2


def closed(words):
    """The closed features that a tuple of words out of FEATURES comes to."""
    if not isinstance(words, tuple) or not all([word in FEATURES for word in words]):
        raise BadStanding("features")
    found = {word: True for word in words}
    if "tries" in found:
        found["live"] = True
    if "past" in found or "live" in found:
        found["last"] = True
    return tuple([word for word in FEATURES if word in found])


def refuse_features(kind, features):
    """Raises BadStanding for any value that is no closed features, in their order, of standings of a Kind."""
    if closed(features) != features:
        raise BadStanding("features")
    # Of days it is told whether they are alike, so it must be told what their lines run.
    if kind.days and "live" not in features:
        raise BadStanding("features")


def take_kind_numbers(words):
    """The Kind that the next ones of some Words tell, which are its numbers."""
    fixes = words.take_number(0, MOST)
    lines = words.take_number(0, MOST)
    days = []
    while len(days) < MOST and words.is_next() and not words.is_next(";", ":"):
        days.append(words.take_number(1, lines))
    return Kind(fixes, lines, days)


class Kind:
    """How many fixes, how many lines, and for each day the number of its line."""

    def __init__(self, fixes, lines, days=()):
        if not is_within(fixes, 0, MOST):
            raise BadStanding("fixes")
        if not is_within(lines, 0, MOST):
            raise BadStanding("lines")
        if not isinstance(days, (list, tuple)) or len(days) > MOST:
            raise BadStanding("days")
        if not all([is_within(line, 1, lines) for line in days]):
            raise BadStanding("days")
        self.fixes = fixes
        self.lines = lines
        self.days = tuple(days)

    @staticmethod
    def read(text):
        """The kind with this text."""
        words = Words(text)
        words.take("kind")
        kind = take_kind_numbers(words)
        words.end()
        return kind

    def __str__(self):
        return " ".join(["kind", *self.number_words()])

    def number_words(self):
        """The list of the numbers of the text, as words."""
        return [str(number) for number in (self.fixes, self.lines, *self.days)]

    def __eq__(self, other):
        if not isinstance(other, Kind) or self.fixes != other.fixes:
            return False
        return self.lines == other.lines and self.days == other.days

    def __le__(self, other):
        if not isinstance(other, Kind):
            raise BadStanding("other")
        if self.fixes > other.fixes or self.lines > other.lines:
            return False
        return self.days == other.days[:len(self.days)]
