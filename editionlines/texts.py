"""The texts of answers and of projects, in rows."""

from editionlines.climbs import Climb, NoClimb
from editionlines.compared import Follows, Parting, Within
from editionlines.errors import BadProject, BadWay
from editionlines.judging import Broken, Holds
from editionlines.projects import Project

# The letters of things, in order.
LETTERS = ("F", "G", "A", "B", "D", "E")


def table_rows(word, table):
    """The list of the rows of a table of Standings."""
    return [f"{word} {len(table)}", *[str(standing) for standing in table]]


def history_rows(history):
    """The list of the rows of the needs and the deeds of a History."""
    return [f"needs {history.needs}", str(history)]


def things_row(things):
    """The row of a dict from letters to things."""
    told = [f"{letter} {things[letter]}" for letter in LETTERS if letter in things]
    return f"things {' , '.join(told) or '-'}"


def numbers_row(word, numbers):
    """The row of some Numbers."""
    told = [str(number) for number in numbers]
    return f"{word} {' '.join(told) or '-'}"


def answer_rows(answer):
    """The list of the rows of an answer."""
    if isinstance(answer, Holds):
        return table_rows("holds", answer.table)
    if isinstance(answer, Follows):
        return table_rows("follows", answer.table)
    if isinstance(answer, Within):
        rows = [row for table in answer.tables for row in table_rows("table", table)]
        return [f"within {len(answer.tables)}", *rows]
    if isinstance(answer, Broken):
        return ["broken", *history_rows(answer.history), things_row(answer.things)]
    if isinstance(answer, Parting):
        return ["parting", *history_rows(answer.history)]
    if isinstance(answer, Climb):
        return [numbers_row("climb", answer.numbers)]
    if isinstance(answer, NoClimb):
        return [numbers_row("noclimb", answer.numbers)]
    raise BadWay(answer)


def write_answer(answer):
    """The text of an answer."""
    return "\n".join(answer_rows(answer))


def project_text(project):
    """The text of a project."""
    if not isinstance(project, Project):
        raise BadProject("project")
    rows = [f"lot {project.lot}", f"needs {project.needs}"]
    rows.extend([f"clause {clause}" for clause in project.book])
    rows.extend([f"deed {deed}" for deed in project])
    rows.extend([f"again {deed}" for deed in project.undone])
    return "\n".join(rows)
