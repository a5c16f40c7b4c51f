"""Shelves: clauses that may be taken, and the least choices of them that keep wishes."""

from editionlines.books import Book
from editionlines.checks import is_within
from editionlines.clauses import Clause
from editionlines.cutting import rows_of
from editionlines.errors import BadBook, BadHistory, BadNumber, BadWish, TooMany
from editionlines.histories import History
from editionlines.judging import judged
from editionlines.papers import Denial, Paper, kept_value
from editionlines.wishes import Wish

MOST_WISHES = 4
MOST_MUSTS = 8


class Choices(Paper):
    """The least choices, for each of them the Holds of each wish, and rows: histories that the others let."""

    def __init__(self, least, holds, rows):
        self.least = kept_value(least)
        self.holds = kept_value(holds)
        self.rows = kept_value(rows)

    def held(self):
        """The tuple of the values of all attributes."""
        return (self.least, self.holds, self.rows)


class NoChoice(Denial):
    """A row, whose history all clauses let that are not out: so no choice keeps the wishes."""

    def __init__(self, row):
        self.row = kept_value(row)

    def held(self):
        """The tuple of the values of all attributes."""
        return (self.row,)


class Shelf:
    """Unlike clauses that may be taken; it is iterated over as the tuple of them, in order."""

    MOST = 8

    def __init__(self, *clauses):
        if not all([isinstance(clause, Clause) for clause in clauses]):
            raise BadBook("clause")
        if len({str(clause): True for clause in clauses}) < len(clauses):
            raise BadBook("twice")
        if len(clauses) > Shelf.MOST:
            raise TooMany("clauses", Shelf.MOST)
        self.clauses = clauses

    def __len__(self):
        return len(self.clauses)

    def __iter__(self):
        return iter(self.clauses)

    def book_of(self, *places):
        """The Book of the clauses at some indexes."""
        for at in places:
            if not is_within(at, 0, len(self.clauses) - 1):
                raise BadNumber(at)
        return Book.of([self.clauses[at] for at in places])

    def refusers(self, history):
        """The ascending tuple of the indexes of the clauses that do not let a History."""
        if not isinstance(history, History):
            raise BadHistory("history")
        return tuple([at for at, clause in enumerate(self.clauses) if Book(clause).lets(history) is not None])


def are_all(value, least, most):
    """Whether any value is a list or a tuple of so many things."""
    return isinstance(value, (list, tuple)) and least <= len(value) <= most


def refuse_choice(shelf, wishes, ground, musts):
    """Raises what is wrong with what choices are asked of."""
    if not isinstance(shelf, Shelf):
        raise BadBook("shelf")
    if not are_all(wishes, 1, MOST_WISHES) or not all([isinstance(wish, Wish) for wish in wishes]):
        raise BadWish("wishes")
    if ground is not None and not isinstance(ground, Book):
        raise BadBook("ground")
    if not are_all(musts, 0, MOST_MUSTS) or not all([isinstance(history, History) for history in musts]):
        raise BadHistory("musts")


class Choosing:
    """A shelf, wishes, a ground and musts that fit: what choices are asked of."""

    def __init__(self, shelf, wishes, ground, musts):
        refuse_choice(shelf, wishes, ground, musts)
        self.shelf = shelf
        self.wishes = tuple(wishes)
        self.base = Book() if ground is None else ground
        for at, history in enumerate(musts):
            if self.base.lets(history) is not None:
                raise BadHistory(at)
        # Book itself refuses too many clauses.
        Book.of([*self.base.clauses, *shelf.clauses])
        outs = [at for history in musts for at in shelf.refusers(history)]
        self.free = tuple([at for at in range(len(shelf)) if at not in outs])

    def book_with(self, choice):
        """The Book of the ground and of a choice, an ascending tuple of indexes."""
        return self.base & self.shelf.book_of(*choice)

    def all_choices(self):
        """The list of all choices without clauses that are out, those of fewer clauses first, then ascending."""
        return [choice for many in range(len(self.free) + 1) for choice in rows_of(self.free, many)]

    def broken_under(self, choice):
        """A row, the index of a wish and its Broken under a choice; None if the choice keeps all wishes."""
        for at, found in enumerate(self.answers_under(choice)):
            if not found:
                return (at, found)
        return None

    def answers_under(self, choice):
        """The tuple of what is told of each wish under a choice, up to the first one that is broken."""
        book = self.book_with(choice)
        found = []
        for wish in self.wishes:
            found.append(judged(book, wish))
            if not found[-1]:
                return tuple(found)
        return tuple(found)


def lies_in(one, other):
    """Whether each index of a choice is in another one."""
    return all([at in other for at in one])


def is_met(choice, refused):
    """Whether a choice has one of the clauses of each row of refusers, so that it lets none of these histories."""
    return all([any([at in choice for at in row]) for row in refused])


def least_choices(shelf, wishes, ground=None, musts=()):
    """The Choices of a shelf that keep wishes; the NoChoice if there is none."""
    asked = Choosing(shelf, wishes, ground, musts)
    row = asked.broken_under(asked.free)
    if row is not None:
        return NoChoice(row)
    least = []
    holds = []
    rows = []
    refused = []
    for choice in asked.all_choices():
        if is_met(choice, refused) and not any([lies_in(told, choice) for told in least]):
            answers = asked.answers_under(choice)
            if answers[-1]:
                least.append(choice)
                holds.append(answers)
            else:
                rows.append((len(answers) - 1, answers[-1]))
                refused.append(shelf.refusers(answers[-1].history))
    return Choices(tuple(least), tuple(holds), tuple(rows))
