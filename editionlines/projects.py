"""Projects: histories that grow under a book."""

from editionlines.books import Book
from editionlines.checks import is_within
from editionlines.cutting import rest_of
from editionlines.deeds import Deed, deed_of
from editionlines.errors import BadBook, BadDeed, BadLot, BadNeeds, Barred, EditionError, NoLine, Nothing
from editionlines.histories import History
from editionlines.lots import Lot
from editionlines.needs import Needs


def plain_deeds(ground, kind):
    """The list of the deeds of a kind of the things of a Ground, each of one thing and without a stop, in order."""
    lines = range(1, ground.line_count + 1)
    if kind == "cut":
        return [deed_of(kind, (), None)]
    if kind in ("fix", "unfix"):
        return [deed_of(kind, (fix,), None) for fix in ground.fixes]
    if kind in ("carry", "drop"):
        return [deed_of(kind, (fix, line), None) for fix in ground.fixes for line in lines]
    if kind in ("try", "probe", "meet"):
        pairs = [(line, mate) for line in lines for mate in lines if line < mate or (kind == "probe" and line > mate)]
        return [deed_of(kind, pair, None) for pair in pairs]
    many = ground.day_count if kind in ("redo", "renew", "shut") else ground.line_count
    return [deed_of(kind, (number,), None) for number in range(1, many + 1)]


def done_with(history, book, deed):
    """The history longer by a deed, which a book must let."""
    found = book.refusal(history, deed)
    if found is not None:
        raise Barred(found.clause)
    return history + deed


def is_let(history, book, deed):
    """Whether a deed can be done behind a history and a book lets it."""
    try:
        done_with(history, book, deed)
    except EditionError:
        return False
    return True


class Trial:
    """A block behind which a project is as it was ahead of it, unless it is kept."""

    def __init__(self, project):
        self.project = project
        self.target = project
        self.went = None
        self.rules = None
        self.taken = ()

    def __enter__(self):
        self.target = self.project
        self.went = self.project.went
        self.rules = self.project.rules
        self.taken = self.project.taken
        return self

    def keep(self):
        """What is done in the block stays, if no error leaves it."""
        # What was ahead of the block is put back behind it: here, where it already is, and not to the project.
        self.target = self

    def __exit__(self, kind, value, trace):
        if kind is not None:
            self.target = self.project
        target = self.target
        target.went = self.went
        target.rules = self.rules
        target.taken = self.taken


class Project:
    """A history that grows under a book, and the deeds of it that were taken back; it is iterated over as its deeds."""

    def __init__(self, lot, needs=None, book=None):
        if not isinstance(lot, Lot):
            raise BadLot("lot")
        if needs is not None and not isinstance(needs, Needs):
            raise BadNeeds("needs")
        if book is not None and not isinstance(book, Book):
            raise BadBook("book")
        self.lot = lot
        self.needs = Needs() if needs is None else needs
        self.went = History(lot, (), needs)
        self.rules = Book() if book is None else book
        self.taken = ()

    def __eq__(self, other):
        return isinstance(other, Project) and self.went == other.went and self.rules == other.rules

    def __len__(self):
        return len(self.went)

    def __iter__(self):
        return iter(self.went.deeds)

    def __getitem__(self, at):
        ground = self.went.ground
        if not is_within(at, 0, ground.line_count):
            raise NoLine(at)
        return ground.main if at == 0 else ground.lines[at - 1].lot

    def __contains__(self, x):
        ground = self.went.ground
        return x in ground.main or any([x in line.lot for line in ground.lines])

    def __call__(self, deed):
        return self.do(deed)

    @property
    def history_now(self):
        """The History so far."""
        return self.went

    @property
    def ground_now(self):
        """The Ground behind all deeds."""
        return self.went.ground

    @property
    def undone(self):
        """The tuple of the deeds that can be done again, the next one first."""
        return self.taken

    @property
    def counts(self):
        """A dict from the words of kinds to how many deeds of them were done."""
        found = {}
        for deed in self.went.deeds:
            found[deed.KIND] = found.get(deed.KIND, 0) + 1
        return found

    @property
    def book(self):
        """The book."""
        return self.rules

    @book.setter
    def book(self, value):
        self.set_book(value)

    def set_book(self, book):
        """Exchanges the book for one that lets all that was done."""
        if book is not None and not isinstance(book, Book):
            raise BadBook("book")
        rules = Book() if book is None else book
        at = rules.lets(self.went)
        if at is not None:
            raise Barred(rules.refusal(self.went.ahead(at), self.went[at]).clause)
        self.rules = rules

    def do(self, deed):
        """Does a deed; returns the Release of an offer, the tuple of the days that a day or a night makes."""
        if not isinstance(deed, Deed):
            raise BadDeed(None)
        self.went = done_with(self.went, self.rules, deed)
        self.taken = ()
        if deed.KIND == "offer":
            return self.went.releases[-1]
        if deed.KIND in ("day", "night"):
            return self.went.made(len(self.went) - 1)
        return None

    def do_all(self, *deeds):
        """Does all deeds, or none of them; returns the list of what do returns."""
        with self.trial() as trial:
            told = [self.do(deed) for deed in deeds]
            trial.keep()
        return told

    def finish(self):
        """Does what is not done of the last deed, which is stopped."""
        rest = rest_of(self.went[-1]) if len(self.went) > 0 else None
        if rest is None:
            raise Nothing()
        return self.do(rest)

    def undo(self):
        """Takes the last deed back and returns it."""
        many = len(self.went)
        if many == 0:
            raise Nothing()
        deed = self.went[-1]
        self.went = self.went.ahead(many - 1)
        self.taken = (deed, *self.taken)
        return deed

    def again(self):
        """Does the deed again that was taken back last."""
        if not self.taken:
            raise Nothing()
        left = self.taken[1:]
        told = self.do(self.taken[0])
        self.taken = left
        return told

    def let(self, deed):
        """Whether do would raise nothing."""
        if not isinstance(deed, Deed):
            raise BadDeed(None)
        return is_let(self.went, self.rules, deed)

    def choices(self):
        """A generator of the plain deeds that do would do, of the project as it is when the first one is asked for."""
        history = self.went
        book = self.rules
        for kind in Deed.KINDS:
            for deed in plain_deeds(history.ground, kind):
                if is_let(history, book, deed):
                    yield deed

    def with_history(self, history, undone):
        """A project of the same book with a history, and deeds that were taken back."""
        made = Project(history.lot, history.needs, self.rules)
        made.went = history
        made.taken = undone
        return made

    def only(self, lot, lines, days):
        """The project of the history cut down to some fixes, lines and days."""
        return self.with_history(self.went.only(lot, lines, days), ())

    def twin(self):
        """An equal project with the same deeds to be done again."""
        return self.with_history(self.went, self.taken)

    def trial(self):
        """A block behind which the project is as it was ahead of it, unless it is kept."""
        return Trial(self)

    def attempt(self, work, kept=False):
        """Calls work(project) in a block, which stays if kept is True, and returns what work returns."""
        with self.trial() as trial:
            told = work(self)
            if kept is True:
                trial.keep()
        return told
