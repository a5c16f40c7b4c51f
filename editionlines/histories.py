"""Histories: deeds each of which can be done behind those ahead of it."""

from editionlines.bounds import DEEDS
from editionlines.checks import is_within
from editionlines.deeds import Deed, cut_many
from editionlines.errors import BadDeed, BadHistory, BadText, NoRelease, TooMany, Undone
from editionlines.grounds import Ground, is_among
from editionlines.lots import Lot
from editionlines.needs import Needs
from editionlines.numbers import Number, Release
from editionlines.words import Words, pieces


def refuse_deeds(deeds, start):
    """Raises what is wrong with a list or tuple of deeds that stand behind start others, as far as no ground tells."""
    for at, deed in enumerate(deeds):
        if not isinstance(deed, Deed):
            raise BadDeed(start + at)
    if start + len(deeds) > DEEDS:
        raise TooMany("deeds", DEEDS)


def grounds_behind(ground, deeds, start):
    """The list of the Grounds behind each of some deeds that stand behind start others and this Ground."""
    found = []
    now = ground
    for at, deed in enumerate(deeds):
        try:
            now = now.after(deed)
        except Undone as error:
            raise Undone(start + at) from error
        found.append(now)
    return found


def releases_of(deeds, behind):
    """The list of the Releases that some deeds offer, behind each of which the Ground of the same index stands."""
    found = []
    for deed, ground in zip(deeds, behind):
        if deed.KIND == "offer":
            lots = ground.lines[deed.line - 1].releases
            found.append(Release(Number(deed.line, len(lots) - 1), lots[-1]))
    return found


def read_lot(words):
    """The lot and how many words are ahead of its deeds, of the list of the words of a history."""
    if ":" not in words:
        Lot.read(" ".join(words))
        raise BadText(0, len(words))
    many = words.index(":")
    return (Lot.read(" ".join(words[:many])), many + 1)


def read_deeds(words, start):
    """The list of the deeds that the words of a history behind the first start ones tell."""
    if words == ["-"]:
        return []
    if words and words[0] == "-":
        raise BadText(0, start + 1)
    deeds = []
    for first, row in pieces(words, start, ","):
        try:
            deeds.append(Deed.read(" ".join(row)))
        except BadText as error:
            raise BadText(0, first + error.word) from error
    return deeds


class History:
    """A lot, a row of deeds, and needs; it is iterated over as the tuple of the deeds."""

    def __init__(self, lot, deeds=(), needs=None):
        if not isinstance(lot, Lot):
            raise BadHistory("lot")
        if not isinstance(deeds, (list, tuple)):
            raise BadHistory("deeds")
        if needs is not None and not isinstance(needs, Needs):
            raise BadHistory("needs")
        refuse_deeds(deeds, 0)
        start = Ground(lot)
        behind = grounds_behind(start, deeds, 0)
        self.lot = lot
        self.needs = Needs() if needs is None else needs
        self.deeds = tuple(deeds)
        self.moments = (start, *behind)
        self.ground = self.moments[-1]
        self.releases = tuple(releases_of(deeds, behind))

    @classmethod
    def read(cls, text, needs=None):
        """The history with this text and these needs."""
        words = list(Words(text))
        lot, start = read_lot(words)
        return cls(lot, read_deeds(words[start:], start), needs)

    def __str__(self):
        if not self.deeds:
            return f"{self.lot} : -"
        told = [str(deed) for deed in self.deeds]
        return f"{self.lot} : {', '.join(told)}"

    def __eq__(self, other):
        if not isinstance(other, History) or self.lot != other.lot:
            return False
        return self.deeds == other.deeds and self.needs == other.needs

    def __contains__(self, x):
        return isinstance(x, Deed) and x in self.deeds

    def __len__(self):
        return len(self.deeds)

    def __iter__(self):
        return iter(self.deeds)

    def __getitem__(self, at):
        return self.deeds[at]

    def __add__(self, other):
        deeds = [other] if isinstance(other, Deed) else other
        if not isinstance(deeds, (list, tuple)):
            raise BadHistory("other")
        refuse_deeds(deeds, len(self))
        behind = grounds_behind(self.ground, deeds, len(self))
        return self.with_deeds((*self.deeds, *deeds), (*self.moments, *behind))

    def with_deeds(self, deeds, moments):
        """The history of these deeds with the same lot and needs; moments are the Grounds of all its moments."""
        made = History(self.lot, (), self.needs)
        made.deeds = deeds
        made.moments = moments
        made.ground = moments[-1]
        made.releases = tuple(releases_of(deeds, moments[1:]))
        return made

    def refuse_next(self, deed):
        """Raises what the history longer by a deed would raise."""
        refuse_deeds([deed], len(self))
        grounds_behind(self.ground, [deed], len(self))

    def ahead(self, n):
        """The history of the first n deeds."""
        if not is_within(n, 0, len(self)):
            raise BadHistory("ahead")
        return self.with_deeds(self.deeds[:n], self.moments[:n + 1])

    def grounds(self):
        """A generator of the Ground of the start and those behind each deed."""
        for ground in self.moments:
            yield ground

    def made(self, n):
        """The tuple of the numbers of the days that the deed of index n makes."""
        if not is_within(n, 0, len(self) - 1):
            raise BadHistory("made")
        return tuple(range(self.moments[n].day_count + 1, self.moments[n + 1].day_count + 1))

    def release(self, number):
        """The Release with a Number."""
        self.refuse_number(number)
        return Release(number, self.ground.lines[number.line - 1].releases[number.at])

    def were_tried(self, one, other):
        """Whether the releases with two Numbers were tried."""
        self.refuse_number(one)
        self.refuse_number(other)
        pair = ((one.line, one.at), (other.line, other.at))
        return is_among(self.ground.tried, pair) or is_among(self.ground.tried, (pair[1], pair[0]))

    def refuse_number(self, number):
        """Raises NoRelease for any value that is no Number of a release of the history."""
        if not isinstance(number, Number) or number.line > self.ground.line_count:
            raise NoRelease(number)
        if number.at >= len(self.ground.lines[number.line - 1].releases):
            raise NoRelease(number)

    def only(self, lot, lines, days):
        """The history cut down to some fixes, lines and days."""
        self.ground.refuse_only(lot, lines, days)
        left = [self.left_of(n, lot, tuple(lines), tuple(days)) for n in range(len(self))]
        return History(lot, [deed for deed in left if deed is not None], self.needs.only(lot))

    def left_of(self, n, lot, lines, days):
        """What is left of the deed of index n in the history cut down, None if it is left out."""
        deed = self.deeds[n]
        if deed.KIND == "cut":
            return deed if self.moments[n + 1].line_count in lines else None
        made = self.made(n)
        if deed.KIND == "day" and made[0] not in days:
            return None
        if deed.KIND != "night":
            return deed.cut_to(lot, lines, days)
        # Lines behind the stop make no days: of them the line itself must be kept.
        still = [line for line in deed.lines[len(made):] if line in lines]
        done = [line for line, day in zip(deed.lines, made) if day in days]
        return cut_many(deed, [*done, *still], lines)
