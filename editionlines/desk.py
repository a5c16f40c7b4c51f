"""The desk: a project, wishes and a web that are told and asked in lines."""

from editionlines.desk_answers import answer_to
from editionlines.desk_lines import order_of
from editionlines.desk_pages import CHANGES, Page, page_behind
from editionlines.errors import BadLine, Barred, EditionError, NoDay, NoFix, NoLine, NoRelease, Nothing, Ring, TooMany
from editionlines.errors import Undone
from editionlines.lots import Lot
from editionlines.projects import Project
from editionlines.webs import Web


class Desk:
    """What stands on a desk now, and the pages that were ahead of it and were taken back; it changes."""

    def __init__(self):
        self.page = Page(Project(Lot()), {}, Web())
        self.earlier = ()
        self.taken_back = ()

    def ask(self, line):
        """Does what a line tells and returns its answer."""
        try:
            word, things = order_of(line)
            return self.told(word, things)
        except BadLine:
            raise
        except Barred as error:
            return f"barred {error.clause}"
        except NoFix:
            return "refused NoFix"
        except NoLine:
            return "refused NoLine"
        except NoDay:
            return "refused NoDay"
        except NoRelease:
            return "refused NoRelease"
        except Nothing:
            return "refused Nothing"
        except Ring:
            return "refused Ring"
        except TooMany:
            return "refused TooMany"
        except Undone:
            return "refused Undone"
        except EditionError:
            return "refused"

    def __call__(self, line):
        return self.ask(line)

    def told(self, word, things):
        """The answer to a line with this first word and these things."""
        if word == "undo":
            return self.step_back()
        if word == "again":
            return self.step_on()
        if word not in CHANGES:
            return answer_to(self.page, word, things)
        page, answer = page_behind(self.page, word, things)
        self.earlier = (*self.earlier, self.page)
        self.taken_back = ()
        self.page = page
        return answer

    def step_back(self):
        """Takes the last line back that changed something."""
        if not self.earlier:
            return "nothing"
        self.taken_back = (self.page, *self.taken_back)
        self.page = self.earlier[-1]
        self.earlier = self.earlier[:-1]
        return "ok"

    def step_on(self):
        """Does the line again that was taken back last."""
        if not self.taken_back:
            return "nothing"
        self.earlier = (*self.earlier, self.page)
        self.page = self.taken_back[0]
        self.taken_back = self.taken_back[1:]
        return "ok"

    def run(self, *lines):
        """The list of the answers to some lines; all of them are done, or none."""
        held = (self.page, self.earlier, self.taken_back)
        try:
            return [self.ask(line) for line in lines]
        except BadLine:
            self.page, self.earlier, self.taken_back = held
            raise

    def project_now(self):
        """A twin of the project."""
        return self.page.project.twin()

    def wishes_now(self):
        """A dict from the names to the wishes, names ascending."""
        wishes = self.page.wishes
        return {name: wishes[name] for name in sorted([str(told) for told in wishes])}

    def web_now(self):
        """The web."""
        return self.page.web

    def __len__(self):
        return len(self.earlier)

    def __contains__(self, x):
        return isinstance(x, str) and x in self.page.wishes

    def __eq__(self, other):
        return isinstance(other, Desk) and self.page == other.page
