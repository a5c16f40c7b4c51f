"""The words of a text, taken one by one."""

from editionlines.checks import is_fix
from editionlines.errors import BadText


def number_of(word, least, most):
    """The integer from least to most that any value writes as str does, otherwise None."""
    if not isinstance(word, str) or not is_plain_number(word):
        return None
    # A longer word is out of the bounds; int takes no words of thousands of digits.
    if len(word) > max(len(str(least)), len(str(most))):
        return None
    number = int(word)
    return number if least <= number <= most else None


def is_plain_number(word):
    """Whether a word consists of the digits that str tells of an integer, with a minus or without."""
    digits = word.removeprefix("-")
    if not digits.isascii() or not digits.isdigit():
        return False
    return digits[0] != "0" or word == "0"


def pieces(words, start, sign):
    """The rows of words that end with a word that ends with a sign, without it, and the row behind the last one.

    The answer is a list of pairs: the index of the first word of a row, counted from start, and the row. A last row
    without words is told as one empty word, which can stand there as little as a missing one.
    """
    rows = []
    row = []
    first = start
    for at, word in enumerate(words):
        row.append(word.removesuffix(sign))
        if word.endswith(sign):
            rows.append((first, row))
            row = []
            first = start + at + 1
    rows.append((first, row or [""]))
    return rows


def take_rest(words, read):
    """What the words that are left, of which one must be, tell by the function read."""
    if not words.is_next():
        words.refuse()
    spot = words.spot
    rest = list(words)[spot:]
    try:
        return read(" ".join(rest))
    except BadText as error:
        raise BadText(words.line, spot + error.word) from error


class Words:
    """The words between single spaces of a text, and how many of them were taken; line is told in errors."""

    def __init__(self, text, line=0):
        if not isinstance(text, str):
            raise BadText(line, 0)
        self.parts = tuple(text.split(" "))
        self.line = line
        self.taken = 0

    @property
    def spot(self):
        """The index of the next word."""
        return self.taken

    def __len__(self):
        return len(self.parts)

    def __iter__(self):
        return iter(self.parts)

    def __bool__(self):
        return bool(self.taken < len(self.parts))

    def is_next(self, *some):
        """Whether a word is left which is one of some; any one without some."""
        if self.taken == len(self.parts):
            return False
        return not some or self.parts[self.taken] in some

    def take(self, *some):
        """The next word, which must be one of some; any one without some."""
        if not self.is_next(*some):
            self.refuse()
        return self.step()

    def take_fix(self):
        """The next word, which must be a fix."""
        return self.take_by(is_fix)

    def take_number(self, least, most):
        """The integer from least to most that the next word must write."""
        number = None
        if self.is_next():
            number = number_of(self.parts[self.taken], least, most)
        if number is None:
            self.refuse()
        self.step()
        return number

    def take_by(self, rule):
        """The next word, of which the function rule must tell True."""
        if not self.is_next() or rule(self.parts[self.taken]) is not True:
            self.refuse()
        return self.step()

    def step(self):
        """The next word, which is taken whatever it is."""
        word = self.parts[self.taken]
        self.taken += 1
        return word

    def refuse(self):
        """Raises that the next word cannot stand, or that one is missing."""
        raise BadText(self.line, self.taken)

    def refuse_at(self, spot):
        """Raises that a word that was taken cannot stand."""
        raise BadText(self.line, spot)

    def end(self):
        """Raises that the next word cannot stand, if one is left."""
        if self.is_next():
            self.refuse()
