"""Judging: whether a wish holds under a book, in all histories, or a shortest one that breaks it."""

from editionlines.books import Book
from editionlines.errors import BadBook, BadWish
from editionlines.histories import History
from editionlines.papers import Denial, Paper, kept_value
from editionlines.tables import features_of, is_broken, lot_of, needs_of, walked
from editionlines.wishes import Wish


class Holds(Paper):
    """A closed table of Standings at which a wish is not broken."""

    def __init__(self, table):
        self.table = kept_value(table)

    def held(self):
        """The tuple of the values of all attributes."""
        return (self.table,)


class Broken(Denial):
    """A History that a book lets, and the things of it that break a wish."""

    def __init__(self, history, things):
        self.history = kept_value(history)
        self.things = kept_value(things)

    def held(self):
        """The tuple of the values of all attributes."""
        return (self.history, self.things)


def judged(book, wish):
    """The Broken of a shortest history that breaks a wish, if a book lets one; otherwise the Holds."""
    features = features_of(book, wish)
    table = []
    for standing, deeds in walked(book, wish.kind, features):
        if is_broken(wish, standing):
            history = History(lot_of(wish.kind), deeds, needs_of(standing))
            found = list(wish.breaks(history.ground, history.needs))
            return Broken(history, found[0])
        table.append(standing)
    return Holds(tuple(table))


def refuse_wishes(wishes):
    """Raises the index of the first one of some values that is no Wish."""
    for at, wish in enumerate(wishes):
        if not isinstance(wish, Wish):
            raise BadWish(at)


def verdicts(book, *wishes):
    """A generator of what judged tells of a book and each of some wishes."""
    if not isinstance(book, Book):
        raise BadBook("book")
    refuse_wishes(wishes)
    for wish in wishes:
        yield judged(book, wish)


def copy_of(answer):
    """A Holds or a Broken that is equal to another one, and shares nothing with it that can be changed."""
    if isinstance(answer, Holds):
        return Holds(answer.table)
    return Broken(answer.history, answer.things)


class Judge:
    """Some wishes, and what was told of them under the books that were asked; it is iterated over as the wishes."""

    def __init__(self, *wishes):
        refuse_wishes(wishes)
        self.wishes = wishes
        self.answers = {}

    @property
    def asked(self):
        """How many unlike books were asked."""
        return len(self.answers)

    def __len__(self):
        return len(self.wishes)

    def __iter__(self):
        return iter(self.wishes)

    def __contains__(self, x):
        return x in self.wishes

    def __eq__(self, other):
        return isinstance(other, Judge) and self.wishes == other.wishes

    def __or__(self, other):
        if not isinstance(other, Judge):
            raise BadWish("other")
        wishes = [*self.wishes, *[wish for wish in other.wishes if wish not in self.wishes]]
        return Judge(*wishes)

    def __call__(self, book):
        """The tuple of judged for each wish."""
        if not isinstance(book, Book):
            raise BadBook("book")
        text = str(book)
        if text not in self.answers:
            self.answers[text] = tuple([judged(book, wish) for wish in self.wishes])
        # What the caller changes does not reach what is kept.
        return tuple([copy_of(answer) for answer in self.answers[text]])
