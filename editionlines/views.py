"""The base of what tells of lines and days at a moment."""

from editionlines.checks import is_within
from editionlines.errors import BadLiteral, NoDay, NoFix, NoLine
from editionlines.vocabulary import is_day_word, is_fix_word, is_place_word, is_two_word, plain_word


def refuse_missing(view, deed):
    """Raises the first fix, line or day that a deed names and that a View does not have."""
    for fix in deed.named_fixes():
        if fix not in view.fixes:
            raise NoFix(fix)
    for line in deed.named_lines():
        if line > view.line_count:
            raise NoLine(line)
    for day in deed.own_days():
        if day > view.day_count:
            raise NoDay(day)


class View:
    """The base of Ground and Standing.

    Each class below has the attributes fixes, lines and days, and tells of things that are there: in place_is, two_are
    and day_is whether a word that is no opposite is true of them, in home_of the line of a day.
    """

    @property
    def line_count(self):
        """How many lines there are."""
        return len(self.lines)

    @property
    def day_count(self):
        """How many days there are."""
        return len(self.days)

    def line_of(self, day):
        """The number of the line of a day."""
        if not is_within(day, 1, self.day_count):
            raise NoDay(day)
        return self.home_of(day)

    def place_tells(self, word, place, fix=None):
        """Whether a word of places is true of main, which is 0, or of a line; about a fix, if it is a fix word."""
        if not is_within(place, 0, self.line_count):
            raise NoLine(place)
        self.refuse_fix(fix)
        if not is_place_word(word):
            raise BadLiteral("word")
        plain = self.plain_about(word, fix)
        self.refuse_untold(word)
        return self.place_is(plain, place, fix) == (plain == word)

    def two_tell(self, word, line, other):
        """Whether a word of two lines is true of the own one and another one."""
        if not is_within(line, 1, self.line_count):
            raise NoLine(line)
        if not is_within(other, 1, self.line_count) or other == line:
            raise NoLine(other)
        if not is_two_word(word):
            raise BadLiteral("word")
        plain = plain_word(word)
        self.refuse_untold(word)
        return self.two_are(plain, line, other) == (plain == word)

    def main_beside(self, word, other):
        """Whether a word of two lines is true of main as own, which is no line, beside a line: if it is an opposite."""
        if not is_within(other, 1, self.line_count):
            raise NoLine(other)
        return word != plain_word(word)

    def day_tells(self, word, day, fix=None):
        """Whether a word of days is true of a day; about a fix, if it is a fix word."""
        if not is_within(day, 1, self.day_count):
            raise NoDay(day)
        self.refuse_fix(fix)
        if not is_day_word(word):
            raise BadLiteral("word")
        plain = self.plain_about(word, fix)
        self.refuse_untold(word)
        return self.day_is(plain, day, fix) == (plain == word)

    def refuse_untold(self, word):
        """Raises BadLiteral for a word that the view does not tell; a Ground tells them all."""

    def refuse_fix(self, fix):
        """Raises NoFix for any value that is neither None nor a fix of the view."""
        if fix is not None and fix not in self.fixes:
            raise NoFix(fix)

    def plain_about(self, word, fix):
        """The plain word of a word, which is not asked without a fix if it is a fix word."""
        if fix is None and is_fix_word(word):
            raise NoFix(None)
        return plain_word(word)
