"""What stands on a desk, and the lines that change it."""

from editionlines.books import Book
from editionlines.errors import BadWish
from editionlines.numbers import Release
from editionlines.projects import Project

# The first words of the lines that change what stands on a desk; deed is told for those of all deeds.
CHANGES = ("lot", "needs", "deed", "finish", "book", "clause", "free", "wish", "forget", "web")


class Page:
    """What stands on a desk: a project, a dict from names to wishes, and a web. It is never changed."""

    def __init__(self, project, wishes, web):
        self.project = project
        self.wishes = wishes
        self.web = web

    def __eq__(self, other):
        if not isinstance(other, Page) or self.project != other.project:
            return False
        return self.wishes == other.wishes and self.web == other.web

    def wish_named(self, name):
        """The wish under a name."""
        if name not in self.wishes:
            raise BadWish("name")
        return self.wishes[name]


def spaced(numbers):
    """The text of some numbers or other things with single spaces between, `-` for none."""
    return " ".join([str(number) for number in numbers]) or "-"


def told_text(told):
    """The answer to a deed of which a project tells this."""
    if isinstance(told, Release):
        return str(told)
    return "ok" if told is None else spaced(told)


def new_project(project, word, thing):
    """A project without deeds, of another lot or with other needs, with the book of a project."""
    if word == "lot":
        return Project(thing, None, project.book)
    return Project(project.lot, thing, project.book)


def book_behind(book, word, thing):
    """The book that a line tells, as the one of now or with or without a clause."""
    if word == "clause":
        return book & Book(thing)
    return book - Book(thing) if word == "free" else thing


def project_behind(project, word, things):
    """The pair of the project behind a line and its answer; the project that is passed stays as it is."""
    if word in ("lot", "needs"):
        return (new_project(project, word, things[0]), "ok")
    later = project.twin()
    if word == "deed":
        return (later, told_text(later.do(things[0])))
    if word == "finish":
        return (later, told_text(later.finish()))
    later.set_book(book_behind(project.book, word, things[0]))
    return (later, "ok")


def page_behind(page, word, things):
    """The pair of the Page behind a line that changes something and its answer."""
    if word == "web":
        return (Page(page.project, page.wishes, things[0]), "ok")
    if word == "wish":
        name, wish = things
        return (Page(page.project, {**page.wishes, name: wish}, page.web), "ok")
    if word == "forget":
        page.wish_named(things[0])
        left = {name: page.wishes[name] for name in page.wishes if name != things[0]}
        return (Page(page.project, left, page.web), "ok")
    project, answer = project_behind(page.project, word, things)
    return (Page(project, page.wishes, page.web), answer)
