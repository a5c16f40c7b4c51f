"""The errors of the package: what was asked wrongly, and what has no answer."""


class EditionError(ValueError):
    """The base of all errors."""


class BadInput(EditionError):
    """What was passed does not fit."""


class NoAnswer(EditionError):
    """What was passed fits, but nothing can be told or done."""


class BadBook(BadInput):
    """This part of a book is wrong."""

    def __init__(self, part):
        self.part = part


class BadClause(BadInput):
    """This part of a clause is wrong."""

    def __init__(self, part):
        self.part = part


class BadDeed(BadInput):
    """No deed stands at this index; None for one that was passed alone."""

    def __init__(self, at):
        self.at = at


class BadFact(BadInput):
    """This part of a fact is wrong."""

    def __init__(self, part):
        self.part = part


class BadFix(BadInput):
    """This value is no fix."""

    def __init__(self, value):
        self.value = value


class BadHistory(BadInput):
    """This part of a history is wrong."""

    def __init__(self, part):
        self.part = part


class BadLine(BadInput):
    """This word of a line cannot stand."""

    def __init__(self, word):
        self.word = word


class BadLiteral(BadInput):
    """This part of a literal is wrong."""

    def __init__(self, part):
        self.part = part


class BadLot(BadInput):
    """This part of a lot is wrong."""

    def __init__(self, part):
        self.part = part


class BadNeeds(BadInput):
    """This part of needs is wrong."""

    def __init__(self, part):
        self.part = part


class BadNumber(BadInput):
    """This value is no such number."""

    def __init__(self, value):
        self.value = value


class BadPlace(BadInput):
    """This part of what tells places is wrong."""

    def __init__(self, part):
        self.part = part


class BadPrice(BadInput):
    """This value is no price."""

    def __init__(self, value):
        self.value = value


class BadProject(BadInput):
    """This part of a project is wrong."""

    def __init__(self, part):
        self.part = part


class BadStanding(BadInput):
    """This part of a standing is wrong."""

    def __init__(self, part):
        self.part = part


class BadText(BadInput):
    """This word of this row of a text cannot stand."""

    def __init__(self, line, word):
        self.line = line
        self.word = word


class BadWay(BadInput):
    """This value tells no way."""

    def __init__(self, value):
        self.value = value


class BadWeb(BadInput):
    """This part of a web is wrong."""

    def __init__(self, part):
        self.part = part


class BadWish(BadInput):
    """This part of a wish is wrong."""

    def __init__(self, part):
        self.part = part


class NoDay(BadInput):
    """There is no such day."""

    def __init__(self, day):
        self.day = day


class NoFix(BadInput):
    """There is no such fix."""

    def __init__(self, fix):
        self.fix = fix


class NoLine(BadInput):
    """There is no such line."""

    def __init__(self, line):
        self.line = line


class NoRelease(BadInput):
    """There is no release of this number."""

    def __init__(self, number):
        self.number = number


class Ring(BadInput):
    """This fix needs itself, directly or through others."""

    def __init__(self, fix):
        self.fix = fix


class Barred(NoAnswer):
    """This clause does not hold."""

    def __init__(self, clause):
        self.clause = clause


class Nothing(NoAnswer):
    """There is nothing to do."""


class TooMany(NoAnswer):
    """There would be more of these things than this."""

    def __init__(self, what, most):
        self.what = what
        self.most = most


class Undone(NoAnswer):
    """The deed at this index cannot be done; None for one that was passed alone."""

    def __init__(self, at):
        self.at = at


class Unlike(NoAnswer):
    """This part of two things does not go together."""

    def __init__(self, part):
        self.part = part
