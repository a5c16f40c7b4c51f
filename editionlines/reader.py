"""Answers and projects, read from their texts."""

from editionlines.bounds import DAYS, LINES
from editionlines.books import MOST_CLAUSES, Book
from editionlines.clauses import Clause
from editionlines.climbs import Climb, NoClimb
from editionlines.compared import Follows, Parting, Within
from editionlines.deeds import Deed
from editionlines.errors import BadText, EditionError
from editionlines.histories import History
from editionlines.judging import Broken, Holds
from editionlines.lots import Lot
from editionlines.needs import Needs
from editionlines.numbers import Number, is_number_word
from editionlines.projects import Project
from editionlines.standings import Standing
from editionlines.tables import MOST_STANDINGS
from editionlines.texts import LETTERS
from editionlines.words import Words, take_rest


class Rows:
    """The rows of a text, taken one by one; it changes."""

    def __init__(self, text):
        if not isinstance(text, str):
            raise BadText(0, 0)
        self.rows = tuple(text.split("\n"))
        self.passed = 0

    def take_row(self):
        """The Words of the next row, which must be there."""
        if self.passed == len(self.rows):
            raise BadText(self.passed, 0)
        self.passed += 1
        return Words(self.rows[self.passed - 1], self.passed - 1)

    def is_row_of(self, word):
        """Whether a row is left, and the first word of the next one is this."""
        return self.passed < len(self.rows) and self.rows[self.passed].split(" ")[0] == word

    def end_rows(self):
        """Raises that the next row cannot stand, if one is left."""
        if self.passed < len(self.rows):
            raise BadText(self.passed, 0)


def take_thing(words, read):
    """What the words that are left of a row tell by the function read; one that is refused is told at the word 0."""
    try:
        return take_rest(words, read)
    except BadText:
        raise
    except EditionError as error:
        raise BadText(words.line, 0) from error


def take_row_of(rows, word, read):
    """What the next row tells, which begins with a word, by the function read."""
    words = rows.take_row()
    words.take(word)
    return take_thing(words, read)


def take_table(rows, words):
    """The tuple of the Standings of a table; words are those behind the first one of its own row."""
    many = words.take_number(0, MOST_STANDINGS)
    words.end()
    table = []
    for _ in range(many):
        table.append(take_thing(rows.take_row(), lambda text: Standing.read(text)))
    return tuple(table)


def take_tables(rows, words):
    """The tuple of the tables of a Within; words are those behind the first one of its own row."""
    many = words.take_number(0, MOST_CLAUSES)
    words.end()
    tables = []
    for _ in range(many):
        row = rows.take_row()
        row.take("table")
        tables.append(take_table(rows, row))
    return tuple(tables)


def take_history(rows):
    """The History that the next two rows tell."""
    needs = take_row_of(rows, "needs", lambda text: Needs.read(text))
    return take_thing(rows.take_row(), lambda text: History.read(text, needs))


def take_things(words):
    """The dict from letters to things that a row tells."""
    words.take("things")
    things = {}
    if words.is_next("-"):
        words.take()
        words.end()
        return things
    left = LETTERS
    while True:
        letter = take_letter(words, left)
        left = left[left.index(letter) + 1:]
        if letter in ("F", "G"):
            things[letter] = words.take_fix()
        else:
            things[letter] = words.take_number(1, LINES if letter in ("A", "B") else DAYS)
        if not words.is_next():
            return things
        words.take(",")


def take_letter(words, letters):
    """The next word, which must be one of some letters."""
    return words.take_by(lambda word: word in letters)


def take_numbers(words):
    """The tuple of the Numbers that the words that are left tell."""
    if words.is_next("-"):
        words.take()
        words.end()
        return ()
    numbers = [Number.read(words.take_by(is_number_word))]
    while words.is_next():
        numbers.append(Number.read(words.take_by(is_number_word)))
    return tuple(numbers)


def answer_of(word, words, rows):
    """The answer whose first row begins with a word; words are those behind it, rows those behind the row."""
    if word == "holds":
        return Holds(take_table(rows, words))
    if word == "follows":
        return Follows(take_table(rows, words))
    if word == "within":
        return Within(take_tables(rows, words))
    if word == "climb":
        return Climb(take_numbers(words))
    if word == "noclimb":
        return NoClimb(take_numbers(words))
    words.end()
    history = take_history(rows)
    return Parting(history) if word == "parting" else Broken(history, take_things(rows.take_row()))


def read_answer(text):
    """The answer with this text."""
    rows = Rows(text)
    words = rows.take_row()
    word = words.take("holds", "broken", "follows", "within", "parting", "climb", "noclimb")
    answer = answer_of(word, words, rows)
    rows.end_rows()
    return answer


def take_clause(words, last):
    """The Clause that a row tells, greater than the last one, if that is not None."""
    words.take("clause")
    # Only what is a clause can be less than the one ahead of it.
    clause = take_thing(words, lambda text: Clause.read(text))
    if last is not None and str(clause) <= str(last):
        words.refuse()
    return clause


def take_clauses(rows):
    """The list of the Clauses that the next rows tell, ascending by their texts."""
    clauses = []
    while rows.is_row_of("clause"):
        words = rows.take_row()
        clause = take_clause(words, clauses[-1] if clauses else None)
        if len(clauses) == MOST_CLAUSES:
            words.refuse_at(0)
        clauses.append(clause)
    return clauses


def take_deed(rows, word, do):
    """The Deed that the next row tells, which begins with a word, when the function do has done it."""
    words = rows.take_row()
    words.take(word)
    deed = take_thing(words, lambda text: Deed.read(text))
    try:
        do(deed)
    except EditionError as error:
        raise BadText(words.line, 0) from error
    return deed


def read_project(text):
    """The project with this text."""
    rows = Rows(text)
    lot = take_row_of(rows, "lot", lambda text: Lot.read(text))
    needs = take_row_of(rows, "needs", lambda text: Needs.read(text))
    project = Project(lot, needs, Book.of(take_clauses(rows)))
    while rows.is_row_of("deed"):
        take_deed(rows, "deed", lambda deed: project.do(deed))
    # What is done again is not asked of the book.
    later = Project(lot, needs).with_history(project.history_now, ())
    undone = []
    while rows.is_row_of("again"):
        undone.append(take_deed(rows, "again", lambda deed: later.do(deed)))
    rows.end_rows()
    return project.with_history(project.history_now, tuple(undone))
