"""Literals: a word that is said of a place or a day."""

from editionlines.errors import BadLiteral
from editionlines.vocabulary import DAY_WORDS, PLACE_WORDS, TWO_WORDS
from editionlines.vocabulary import feature_of, is_fix_word, is_two_word, opposite_word
from editionlines.words import Words

WHOS = ("own", "main", "mate", "other", "day")


def words_of(who):
    """The list of the words that are said of a who."""
    if who == "day":
        return list(DAY_WORDS)
    if who in ("mate", "other"):
        return [*list(PLACE_WORDS), *list(TWO_WORDS)]
    return list(PLACE_WORDS)


class Literal:
    """A word of who and a word of what."""

    def __init__(self, who, word):
        if who not in WHOS:
            raise BadLiteral("who")
        if word not in words_of(who):
            raise BadLiteral("word")
        self.who = who
        self.word = word
        self.per_fix = is_fix_word(word)
        self.feature = feature_of(word)

    @staticmethod
    def read(text):
        """The literal with this text."""
        words = Words(text)
        whos = WHOS
        who = words.take(*whos)
        said = words_of(who)
        word = words.take(*said)
        words.end()
        return Literal(who, word)

    def __str__(self):
        return f"{self.who} {self.word}"

    def __eq__(self, other):
        return isinstance(other, Literal) and self.who == other.who and self.word == other.word

    def __invert__(self):
        return Literal(self.who, opposite_word(self.word))

    def __call__(self, view, case):
        """Whether the literal is true at a View in a Case."""
        if self.who == "day":
            return view.day_tells(self.word, case.day, case.fix)
        if is_two_word(self.word):
            if case.line == 0:
                return view.main_beside(self.word, case.other)
            return view.two_tell(self.word, case.line, case.other)
        place, fix = self.place_in(case)
        return view.place_tells(self.word, place, fix)

    def place_in(self, case):
        """The number of the place of which the literal speaks in a Case, and the fix about which it does."""
        if self.who == "main":
            return (0, case.fix)
        if self.who == "own":
            return (case.line, case.fix)
        # In the scopes need and user other is own, about the other fix.
        if isinstance(case.other, str):
            return (case.line, case.other)
        return (case.other, case.fix)
