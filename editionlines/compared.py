"""Books compared: which clauses follow from a book, and whether each history that one lets is let by another one."""

from editionlines.books import Book
from editionlines.clauses import DAY_KINDS, TWO_KINDS, Clause
from editionlines.errors import BadBook, BadClause
from editionlines.gates import Gate
from editionlines.histories import History
from editionlines.kinds import Kind, closed
from editionlines.papers import Denial, Paper, kept_value
from editionlines.tables import lot_of, needs_of, walked

MAIN_KINDS = ("fix", "unfix", "cut")
NAMED_FIX_KINDS = ("fix", "unfix", "carry", "drop")
LIVE_KINDS = ("probe", "meet", "live", "rise", "down", "day", "night")


class Follows(Paper):
    """A closed table of Standings at each of which a clause lets each deed that a book lets."""

    def __init__(self, table):
        self.table = kept_value(table)

    def held(self):
        """The tuple of the values of all attributes."""
        return (self.table,)


class Within(Paper):
    """For each clause of a book, ascending, a table that shows that it follows from another one."""

    def __init__(self, tables):
        self.tables = kept_value(tables)

    def held(self):
        """The tuple of the values of all attributes."""
        return (self.tables,)


class Parting(Denial):
    """A History that a book lets, and whose last deed a clause, or another book, does not let."""

    def __init__(self, history):
        self.history = kept_value(history)

    def held(self):
        """The tuple of the values of all attributes."""
        return (self.history,)


def kind_of(clause):
    """The Kind of the few things that one case of a clause speaks of."""
    fixes = 1 if clause.per_fix or clause.kind in NAMED_FIX_KINDS else 0
    if clause.scope in ("need", "user"):
        fixes = 2
    is_beside = clause.scope in ("newer", "elder")
    if clause.kind in MAIN_KINDS:
        return Kind(fixes, 1 if is_beside else 0)
    lines = 2 if is_beside or clause.kind in TWO_KINDS else 1
    if clause.kind in DAY_KINDS or clause.scope == "day":
        return Kind(fixes, lines, (2,) if clause.scope == "elder" else (1,))
    return Kind(fixes, lines)


def features_with(book, clause):
    """The closed features that a book and a clause look at, and those that tell whether its deeds can be done."""
    told = [*book.features, *clause.features]
    if clause.kind == "try":
        told.append("last")
    if clause.kind in LIVE_KINDS or kind_of(clause).days:
        told.append("live")
    return closed(tuple(told))


def refuse_followed(book, clause):
    """Raises what is wrong with a book and a clause."""
    if not isinstance(book, Book):
        raise BadBook("book")
    if not isinstance(clause, Clause):
        raise BadClause("clause")


def refuse_compared(one, other):
    """Raises what is wrong with two books."""
    if not isinstance(one, Book):
        raise BadBook("one")
    if not isinstance(other, Book):
        raise BadBook("other")


class Pair:
    """A book and a clause, asked at standings of the clause's kind."""

    def __init__(self, book, clause):
        self.word = clause.kind
        self.kind = kind_of(clause)
        self.features = features_with(book, clause)
        self.book_gate = Gate(book, self.kind, self.features)
        self.clause_gate = Gate(Book(clause), self.kind, self.features)

    def parted_at(self, standing):
        """The first deed that can be done at a Standing, that the book lets there and the clause does not; or None."""
        told = self.book_gate.told_of(standing, self.word)
        asked = self.clause_gate.told_of(standing, self.word)
        for (deed, is_let), (_, holds) in zip(told, asked):
            if is_let and not holds:
                return deed
        return None


def follows(book, clause):
    """The Follows of a clause that follows from a book, otherwise the Parting with a shortest history that shows it."""
    refuse_followed(book, clause)
    pair = Pair(book, clause)
    kind = pair.kind
    features = pair.features
    table = []
    for standing, deeds in walked(book, kind, features):
        deed = pair.parted_at(standing)
        if deed is not None:
            return Parting(History(lot_of(kind), (*deeds, deed), needs_of(standing)))
        table.append(standing)
    return Follows(tuple(table))


def within(one, other):
    """The Within if one book lets no history that another one does not let; otherwise the Parting of a clause."""
    refuse_compared(one, other)
    tables = []
    for clause in other:
        found = follows(one, clause)
        if not found:
            return found
        tables.append(found.table)
    return Within(tuple(tables))


def alike(one, other):
    """Whether two books let the same histories."""
    return bool(within(one, other)) and bool(within(other, one))


def needless(book):
    """The ascending tuple of the clauses of a book each of which follows from all the others."""
    if not isinstance(book, Book):
        raise BadBook("book")
    return tuple([clause for clause in book if follows(book - Book(clause), clause)])


def lean(book):
    """The Book that is left when each clause is taken out in turn that follows from those that are still there."""
    if not isinstance(book, Book):
        raise BadBook("book")
    left = book
    for clause in book:
        fewer = left - Book(clause)
        if follows(fewer, clause):
            left = fewer
    return left
