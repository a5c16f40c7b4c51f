"""Which fixes need which."""

from editionlines.checks import is_fix
from editionlines.errors import BadFix, BadLot, BadNeeds, Ring, TooMany
from editionlines.lots import Lot, take_fix_behind, take_fixes
from editionlines.words import Words


def refuse_parts(parts):
    """Raises what is wrong with the parts of Needs, but for rings."""
    if not isinstance(parts, dict):
        raise BadNeeds("parts")
    if not all([isinstance(items, (list, tuple)) for items in list(parts.values())]):
        raise BadNeeds("parts")
    for fix in parts:
        if not is_fix(fix):
            raise BadFix(fix)
    fixes = {fix: True for fix in parts}
    for items in list(parts.values()):
        for fix in items:
            if not is_fix(fix):
                raise BadFix(fix)
            fixes[fix] = True
    if len(fixes) > Lot.MOST:
        raise TooMany("fixes", Lot.MOST)


def lots_of(pairs):
    """A dict from the first ones of some pairs of fixes to the Lots of the second ones."""
    found = {}
    for fix, _ in pairs:
        if fix not in found:
            found[fix] = Lot.of([behind for ahead, behind in pairs if ahead == fix])
    return found


def needed_from(lots, fixes):
    """The ascending list of the fixes that some fixes need, directly or through others."""
    found = {}
    left = list(fixes)
    while left:
        now = left.pop()
        for fix in lots.get(now, ()):
            if fix not in found:
                found[fix] = True
                left.append(fix)
    return sorted([str(fix) for fix in found])


class Needs:
    """Which fixes need which, directly; it is iterated over as the pairs of a fix and one that it needs."""

    def __init__(self, parts=None):
        told = {} if parts is None else parts
        refuse_parts(told)
        keys = sorted([str(fix) for fix in told])
        self.pairs = tuple([(fix, item) for fix in keys for item in Lot.of(told[fix])])
        self.needed = lots_of(self.pairs)
        self.needing = lots_of([(item, fix) for fix, item in self.pairs])
        for fix in keys:
            if fix in needed_from(self.needed, (fix,)):
                raise Ring(fix)

    @classmethod
    def read(cls, text):
        """The needs with this text."""
        words = Words(text)
        parts = {}
        if words.is_next("-"):
            words.take()
            words.end()
            return cls(parts)
        fix = ""
        while True:
            fix = take_fix_behind(words, fix)
            words.take(":")
            parts[fix] = take_fixes(words)
            if not words.is_next():
                return cls(parts)
            words.take(";")

    def __str__(self):
        if not self.pairs:
            return "-"
        return " ; ".join([f"{fix} : {self.needed[fix]}" for fix in self.needed])

    def __eq__(self, other):
        return isinstance(other, Needs) and self.pairs == other.pairs

    def __bool__(self):
        return True

    def __contains__(self, x):
        return isinstance(x, tuple) and x in self.pairs

    def __len__(self):
        return len(self.pairs)

    def __iter__(self):
        return iter(self.pairs)

    def __getitem__(self, at):
        if not is_fix(at):
            raise BadFix(at)
        return self.needed.get(at, Lot())

    def users(self, fix):
        """The Lot of the fixes that need a fix."""
        if not is_fix(fix):
            raise BadFix(fix)
        return self.needing.get(fix, Lot())

    def all_of(self, lot):
        """The Lot with all that the fixes of a lot need, also through others."""
        if not isinstance(lot, Lot):
            raise BadLot("lot")
        return Lot.of([*lot.fixes, *needed_from(self.needed, lot.fixes)])

    def only(self, lot):
        """The needs of fixes of a lot, as far as they are in it, too."""
        if not isinstance(lot, Lot):
            raise BadLot("lot")
        return Needs({fix: (self.needed[fix] & lot).fixes for fix in self.needed if fix in lot})
