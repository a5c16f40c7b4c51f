"""Whether what is told of two books, or of a book and a clause, is right, looked at without a search."""

from editionlines.books import Book
from editionlines.compared import Follows, Pair, Parting, Within, refuse_compared, refuse_followed
from editionlines.histories import History
from editionlines.look_judging import are_standings_of, is_closed_table


def is_right_table(book, clause, table):
    """Whether any value is a table that shows that a clause follows from a book."""
    pair = Pair(book, clause)
    if not are_standings_of(table, pair.kind, pair.features):
        return False
    if not is_closed_table(book, pair.kind, pair.features, table):
        return False
    return all([pair.parted_at(standing) is None for standing in table])


def is_right_parting(one, other, history):
    """Whether any value is a History that one book lets and another one does not."""
    return isinstance(history, History) and one.lets(history) is None and other.lets(history) is not None


def shows_follows(book, clause, value):
    """Whether any value is a right answer to whether a clause follows from a book."""
    refuse_followed(book, clause)
    if isinstance(value, Follows):
        return is_right_table(book, clause, value.table)
    return isinstance(value, Parting) and is_right_parting(book, Book(clause), value.history)


def shows_within(one, other, value):
    """Whether any value is a right answer to whether each history that one book lets is let by another one."""
    refuse_compared(one, other)
    if isinstance(value, Parting):
        return is_right_parting(one, other, value.history)
    if not isinstance(value, Within) or not isinstance(value.tables, tuple) or len(value.tables) != len(other):
        return False
    return all([is_right_table(one, clause, table) for clause, table in zip(other, value.tables)])
