"""Notes: what users gain and lose on a way from one release to another one."""

from editionlines.checks import is_fix
from editionlines.errors import BadText, BadWay, Unlike
from editionlines.lots import Lot
from editionlines.numbers import Number, Release
from editionlines.words import Words


def is_told(value):
    """Whether any value is a Release with a Number and a Lot."""
    return isinstance(value, Release) and isinstance(value.number, Number) and isinstance(value.lot, Lot)


def note_of(release, other):
    """The Note of the way from one Release to another one."""
    if not is_told(release):
        raise BadWay("release")
    if not is_told(other):
        raise BadWay("other")
    return Note(other.lot - release.lot, release.lot - other.lot)


def fixes_without(fixes, out):
    """The Lot of some fixes without others."""
    return Lot.of([fix for fix in fixes if fix not in out])


def can_follow(word, gained, lost):
    """Whether a word can stand behind those that tell what was gained and lost."""
    fix = word[1:]
    if not is_fix(fix):
        return False
    if word.startswith("+"):
        return not lost and len(gained) < Lot.MOST and (not gained or fix > gained[-1])
    if not word.startswith("-") or fix in gained:
        return False
    return len(lost) < Lot.MOST and (not lost or fix > lost[-1])


class Note:
    """What is gained and what is lost."""

    def __init__(self, gained, lost):
        if not isinstance(gained, Lot):
            raise BadWay("gained")
        if not isinstance(lost, Lot):
            raise BadWay("lost")
        if any([fix in lost for fix in gained]):
            raise BadWay("both")
        self.gained = gained
        self.lost = lost

    @staticmethod
    def read(text):
        """The note with this text."""
        words = list(Words(text))
        gained = []
        lost = []
        if words[0] == "-":
            if len(words) > 1:
                raise BadText(0, 1)
            return Note(Lot(), Lot())
        for at, word in enumerate(words):
            if not can_follow(word, gained, lost):
                raise BadText(0, at)
            if word.startswith("+"):
                gained.append(word[1:])
            else:
                lost.append(word[1:])
        return Note(Lot.of(gained), Lot.of(lost))

    def __str__(self):
        told = [*[f"+{fix}" for fix in self.gained], *[f"-{fix}" for fix in self.lost]]
        if not told:
            return "-"
        return " ".join(told)

    def __eq__(self, other):
        return isinstance(other, Note) and self.gained == other.gained and self.lost == other.lost

    def __bool__(self):
        return bool(self.gained.fixes or self.lost.fixes)

    def __neg__(self):
        return Note(self.lost, self.gained)

    def __add__(self, other):
        if not isinstance(other, Note):
            raise BadWay("other")
        if any([fix in other.gained for fix in self.gained]) or any([fix in other.lost for fix in self.lost]):
            raise Unlike("fix")
        gained = [*self.gained, *other.gained]
        lost = [*self.lost, *other.lost]
        return Note(fixes_without(gained, lost), fixes_without(lost, gained))
