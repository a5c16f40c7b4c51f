"""Books: sets of clauses that tell which deeds are let."""

from editionlines.clauses import Clause, refuse_asked
from editionlines.deeds import Deed
from editionlines.errors import BadBook, BadClause, BadDeed, BadHistory, BadText, TooMany
from editionlines.histories import History
from editionlines.kinds import FEATURES
from editionlines.papers import Paper, kept_value
from editionlines.views import View
from editionlines.words import Words, pieces

MOST_CLAUSES = 24


class Refusal(Paper):
    """The first clause of a book that does not hold of a deed, and its first Case in which it fails."""

    def __init__(self, clause, case):
        self.clause = kept_value(clause)
        self.case = kept_value(case)

    def held(self):
        """The tuple of the values of all attributes."""
        return (self.clause, self.case)


def read_clauses(words):
    """The list of the clauses that the words of a book tell."""
    clauses = []
    for first, row in pieces(words, 0, ";"):
        # No clause of a lesser kind is greater than the one ahead, whatever follows its first word.
        if len(clauses) == MOST_CLAUSES or (clauses and row[0] < clauses[-1].kind):
            raise BadText(0, first)
        try:
            clause = Clause.read(" ".join(row))
        except BadText as error:
            raise BadText(0, first + error.word) from error
        if clauses and str(clause) <= str(clauses[-1]):
            raise BadText(0, first)
        clauses.append(clause)
    return clauses


class Book:
    """A set of at most 24 clauses; it is iterated over as the tuple of them, ascending by their texts."""

    def __init__(self, *clauses):
        if not all([isinstance(clause, Clause) for clause in clauses]):
            raise BadBook("clause")
        unlike = {str(clause): clause for clause in clauses}
        if len(unlike) > MOST_CLAUSES:
            raise TooMany("clauses", MOST_CLAUSES)
        self.clauses = tuple([unlike[text] for text in sorted([str(text) for text in unlike])])
        self.by_kind = {kind: self.clauses_of(kind) for kind in Deed.KINDS}
        told = [feature for clause in self.clauses for feature in clause.features]
        self.features = tuple([feature for feature in FEATURES if feature in told])

    def clauses_of(self, kind):
        """The tuple of the clauses of a kind."""
        return tuple([clause for clause in self.clauses if clause.kind == kind])

    @staticmethod
    def of(clauses):
        """The book of a list or tuple."""
        if not isinstance(clauses, (list, tuple)):
            raise BadBook("clauses")
        return Book(*clauses)

    @classmethod
    def read(cls, text):
        """The book with this text."""
        words = list(Words(text))
        if words[0] == "-":
            if len(words) > 1:
                raise BadText(0, 1)
            return cls()
        clauses = read_clauses(words)
        return cls(*clauses)

    @staticmethod
    def for_users():
        """The book under which no user of a line loses a fix by going to a newer line."""
        return Book.read(
            "live elder: other unruns or own unomits; live newer: other unbares or own ungives; "
            "rise elder: other ungives or own unomits; rise elder: other unruns or own unomits; "
            "rise newer: other unbares or own ungives; rise newer: other unomits or own ungives"
        )

    @staticmethod
    def for_testers():
        """The book under which all live releases of two lines have been tried."""
        return Book.read("live elder: other probed or other unup; live newer: other probed or other unup; "
                         "rise once: never")

    @staticmethod
    def for_needs():
        """The book under which no live release has a fix without one that it needs."""
        return Book.read("offer need: other has or own lacks")

    @staticmethod
    def for_clerks():
        """The book under which no fix of a shut day is missing in a later one of its line that is shut."""
        return Book.read("drop once: own unshipped; redo once: never; renew once: never")

    def __str__(self):
        if not self.clauses:
            return "-"
        return "; ".join([str(clause) for clause in self.clauses])

    def __eq__(self, other):
        return isinstance(other, Book) and self.clauses == other.clauses

    def __contains__(self, x):
        return isinstance(x, Clause) and x in self.clauses

    def __len__(self):
        return len(self.clauses)

    def __iter__(self):
        return iter(self.clauses)

    def __getitem__(self, at):
        if at not in Deed.KINDS:
            raise BadClause("kind")
        return self.by_kind[at]

    def __and__(self, other):
        if not isinstance(other, Book):
            raise BadBook("other")
        return Book.of([*self.clauses, *other.clauses])

    def __or__(self, other):
        if not isinstance(other, Book):
            raise BadBook("other")
        return Book.of([clause for clause in self.clauses if clause in other.clauses])

    def __sub__(self, other):
        if not isinstance(other, Book):
            raise BadBook("other")
        return Book.of([clause for clause in self.clauses if clause not in other.clauses])

    def __le__(self, other):
        if not isinstance(other, Book):
            raise BadBook("other")
        return all([clause in self.clauses for clause in other.clauses])

    def __ge__(self, other):
        if not isinstance(other, Book):
            raise BadBook("other")
        return all([clause in other.clauses for clause in self.clauses])

    def __lt__(self, other):
        return self <= other and self.clauses != other.clauses

    def __gt__(self, other):
        return self >= other and self.clauses != other.clauses

    def __call__(self, history, deed):
        """Whether the book lets a deed behind a history."""
        return self.refusal(history, deed) is None

    def refusal(self, history, deed):
        """The Refusal of a deed behind a history, None if the book lets it."""
        if not isinstance(history, History):
            raise BadHistory("history")
        if not isinstance(deed, Deed):
            raise BadDeed(None)
        history.refuse_next(deed)
        return self.refusal_at(history.ground, deed, history.needs)

    def lets(self, history):
        """The index of the first deed of a history that the book does not let, None if it lets all."""
        if not isinstance(history, History):
            raise BadHistory("history")
        for at, (deed, ground) in enumerate(zip(history.deeds, history.moments)):
            if self.refusal_at(ground, deed, history.needs) is not None:
                return at
        return None

    def refusal_at(self, view, deed, needs=None):
        """The Refusal of a deed at a View, None if the book lets it there."""
        if not isinstance(view, View):
            raise BadBook("view")
        refuse_asked(view, deed, needs)
        for clause in self[deed.KIND]:
            case = clause.failure(view, deed, needs)
            if case is not None:
                return Refusal(clause, case)
        return None
