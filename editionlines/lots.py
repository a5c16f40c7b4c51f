"""Lots: sets of at most eight fixes."""

from editionlines.checks import is_fix
from editionlines.errors import BadFix, BadLot, TooMany
from editionlines.words import Words


def take_fix_behind(words, last):
    """The next one of some Words, which must be a fix greater than last."""
    return words.take_by(lambda word: is_fix(word) and word > last)


def take_fixes(words):
    """The next ones of some Words, up to a semicolon or the end: 1 to 8 ascending fixes, as a list."""
    fixes = [words.take_fix()]
    while words.is_next() and not words.is_next(";"):
        if len(fixes) == Lot.MOST:
            words.refuse()
        fixes.append(take_fix_behind(words, fixes[-1]))
    return fixes


class Lot:
    """A set of at most eight fixes; it is iterated over as the ascending tuple of them."""

    MOST = 8

    def __init__(self, *fixes):
        for fix in fixes:
            if not is_fix(fix):
                raise BadFix(fix)
        unlike = {fix: True for fix in fixes}
        if len(unlike) > Lot.MOST:
            raise TooMany("fixes", Lot.MOST)
        self.fixes = tuple(sorted([str(fix) for fix in unlike]))

    @staticmethod
    def of(fixes):
        """The lot of a list or tuple."""
        if not isinstance(fixes, (list, tuple)):
            raise BadLot("fixes")
        return Lot(*fixes)

    @classmethod
    def read(cls, text):
        """The lot with this text."""
        words = Words(text)
        fixes = []
        if words.is_next("-"):
            words.take()
        else:
            fixes = take_fixes(words)
        words.end()
        return cls(*fixes)

    def __str__(self):
        if not self.fixes:
            return "-"
        return " ".join(self.fixes)

    def __eq__(self, other):
        return isinstance(other, Lot) and self.fixes == other.fixes

    def __contains__(self, x):
        return is_fix(x) and x in self.fixes

    def __len__(self):
        return len(self.fixes)

    def __iter__(self):
        return iter(self.fixes)

    def __getitem__(self, at):
        found = self.fixes[at]
        return Lot(*found) if isinstance(found, tuple) else found

    def __or__(self, other):
        if not isinstance(other, Lot):
            raise BadLot("other")
        return Lot.of([*self.fixes, *other.fixes])

    def __and__(self, other):
        if not isinstance(other, Lot):
            raise BadLot("other")
        return self.sifted(other, True)

    def __sub__(self, other):
        if not isinstance(other, Lot):
            raise BadLot("other")
        return self.sifted(other, False)

    def __xor__(self, other):
        if not isinstance(other, Lot):
            raise BadLot("other")
        return self.sifted(other, False) | other.sifted(self, False)

    def __le__(self, other):
        if not isinstance(other, Lot):
            raise BadLot("other")
        return all([fix in other.fixes for fix in self.fixes])

    def __ge__(self, other):
        if not isinstance(other, Lot):
            raise BadLot("other")
        return all([fix in self.fixes for fix in other.fixes])

    def __lt__(self, other):
        return self <= other and self.fixes != other.fixes

    def __gt__(self, other):
        return self >= other and self.fixes != other.fixes

    def sifted(self, other, is_in):
        """The lot of those fixes that are in another lot, or are not in it."""
        return Lot.of([fix for fix in self.fixes if (fix in other.fixes) == is_in])
