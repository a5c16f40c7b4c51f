"""Webs: from which days days are made, and what is made again with them."""

from editionlines.bounds import LINES
from editionlines.checks import is_rising, is_within
from editionlines.dues import refuse_day
from editionlines.errors import BadWeb, NoDay, TooMany
from editionlines.papers import Paper, kept_value
from editionlines.ways import refuse_history
from editionlines.words import Words

MOST_TIES = 12
MOST_BACK = 9


class Again(Paper):
    """The days that are made again, and those that would be and cannot."""

    def __init__(self, days, left):
        self.days = kept_value(days)
        self.left = kept_value(left)

    def held(self):
        """The tuple of the values of all attributes."""
        return (self.days, self.left)


def is_tie(value):
    """Whether any value is a tuple of two numbers of lines and a number of days back."""
    if not isinstance(value, tuple) or len(value) != 3:
        return False
    return is_within(value[0], 1, LINES) and is_within(value[1], 1, LINES) and is_within(value[2], 0, MOST_BACK)


def take_tie(words, last):
    """The tie that the next ones of some Words tell, greater than the last one."""
    line = words.take_number(last[0], LINES)
    words.take("from")
    source = words.take_number(last[1] if line == last[0] else 1, LINES)
    words.take("back")
    is_beside = (line, source) == (last[0], last[1])
    return (line, source, words.take_number(last[2] + 1 if is_beside else 0, MOST_BACK))


class Web:
    """A set of ties; it is iterated over as the ascending tuple of them."""

    def __init__(self, *ties):
        for at, tie in enumerate(ties):
            if not is_tie(tie):
                raise BadWeb(at)
        unlike = {str(tie): tie for tie in ties}
        if len(unlike) > MOST_TIES:
            raise TooMany("ties", MOST_TIES)
        # Their texts are in the order of the ties, as each number of them has one digit.
        self.ties = tuple([unlike[text] for text in sorted([str(text) for text in unlike])])

    @staticmethod
    def read(text):
        """The web with this text."""
        words = Words(text)
        if words.is_next("-"):
            words.take()
            words.end()
            return Web()
        # Each tie is greater than this one.
        ties = [take_tie(words, (1, 1, -1))]
        while words.is_next():
            if len(ties) == MOST_TIES:
                words.refuse()
            words.take(",")
            ties.append(take_tie(words, ties[-1]))
        return Web(*ties)

    def __str__(self):
        if not self.ties:
            return "-"
        return " , ".join([f"{line} from {source} back {back}" for line, source, back in self.ties])

    def __eq__(self, other):
        return isinstance(other, Web) and self.ties == other.ties

    def __contains__(self, x):
        return is_tie(x) and x in self.ties

    def __len__(self):
        return len(self.ties)

    def __iter__(self):
        return iter(self.ties)

    def __or__(self, other):
        if not isinstance(other, Web):
            raise BadWeb("other")
        ties = [*self.ties, *other.ties]
        return Web(*ties)

    def sources(self, history, day):
        """The ascending tuple of the numbers of the days from which a day is made."""
        refuse_day(history, day)
        return source_rows(self, history.ground)[day - 1]

    def users(self, history, day):
        """The ascending tuple of the numbers of the days that are made from a day."""
        refuse_day(history, day)
        rows = source_rows(self, history.ground)
        return tuple([at + 1 for at, row in enumerate(rows) if day in row])

    def cut_to(self, lines):
        """The web of the ties of some lines, which are numbered anew."""
        if not is_rising(lines, 1, LINES):
            raise BadWeb("lines")
        left = [tie for tie in self.ties if tie[0] in lines and tie[1] in lines]
        ties = [(lines.index(line) + 1, lines.index(source) + 1, back) for line, source, back in left]
        return Web(*ties)


def made_from(web, line, rows):
    """The ascending tuple of the days from which the next day of a line is made.

    rows is a dict from all lines to the ascending lists of the numbers of their days so far.
    """
    ties = [(source, back) for own, source, back in web.ties if own == line]
    days = [rows[source][-1 - back] for source, back in ties if len(rows[source]) > back]
    return tuple(sorted([int(day) for day in days]))


def source_rows(web, ground):
    """The list, day by day, of the tuples of the numbers of the days of a Ground from which it is made."""
    rows = {line: [] for line in range(1, LINES + 1)}
    found = []
    for at, state in enumerate(ground.days):
        found.append(made_from(web, state.line, rows))
        rows[state.line].append(at + 1)
    return found


def can_be_made_again(ground, day):
    """Whether a day is not shut and its line has a live release."""
    state = ground.days[day - 1]
    return not state.is_shut and ground.lines[state.line - 1].live is not None


def again(history, web, *days):
    """The Again of some days: what is made again, and what cannot be, if these days are."""
    refuse_history(history)
    if not isinstance(web, Web):
        raise BadWeb("web")
    ground = history.ground
    for day in days:
        if not is_within(day, 1, ground.day_count):
            raise NoDay(day)
    made = []
    left = []
    for at, row in enumerate(source_rows(web, ground)):
        if at + 1 in days or any([source in made for source in row]):
            if can_be_made_again(ground, at + 1):
                made.append(at + 1)
            else:
                left.append(at + 1)
    return Again(tuple(made), tuple(left))
