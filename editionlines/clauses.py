"""Clauses: what is asked of the deeds of a kind, ahead of them."""

from editionlines.deeds import Deed, OfTwo
from editionlines.errors import BadClause, BadDeed, BadNeeds, TooMany
from editionlines.kinds import FEATURES
from editionlines.literals import Literal, words_of
from editionlines.needs import Needs
from editionlines.papers import Paper, kept_value
from editionlines.vocabulary import is_two_word
from editionlines.views import View, refuse_missing
from editionlines.words import Words

MOST_LITERALS = 6
TWO_KINDS = ("try", "probe", "meet")
DAY_KINDS = ("redo", "renew", "shut")


class Case(Paper):
    """Of what a clause is asked: its own line, the fix, the other line or fix, the day; None for what there is not."""

    def __init__(self, line, fix, other, day):
        self.line = kept_value(line)
        self.fix = kept_value(fix)
        self.other = kept_value(other)
        self.day = kept_value(day)

    def held(self):
        """The tuple of the values of all attributes."""
        return (self.line, self.fix, self.other, self.day)


def scopes_of(kind):
    """The list of the scopes that a clause of a kind can have."""
    if kind in TWO_KINDS:
        return ["once"]
    return [scope for scope in Clause.SCOPES if scope != "day" or kind not in DAY_KINDS]


def whos_of(kind, scope):
    """The ascending list of those of whom a clause of a kind and a scope can speak."""
    whos = ["main", "own"]
    if scope in ("newer", "elder", "need", "user"):
        whos = ["main", "other", "own"]
    if kind in TWO_KINDS:
        whos = ["main", "mate", "own"]
    if kind in DAY_KINDS or scope == "day":
        whos = ["day", *whos]
    return whos


def said_of(who, scope):
    """The list of the words that a clause of a scope can say of a who."""
    return [word for word in words_of(who) if scope not in ("need", "user") or not is_two_word(word)]


def refuse_literals(kind, scope, literals):
    """Raises what is wrong with the literals of a clause, but for their number."""
    if not all([isinstance(literal, Literal) for literal in literals]):
        raise BadClause("literal")
    whos = whos_of(kind, scope)
    for part in ("mate", "other", "day"):
        words = said_of(part, scope) if part in whos else []
        if not all([literal.word in words for literal in literals if literal.who == part]):
            raise BadClause(part)


def take_literal(words, kind, scope, last):
    """The Literal that the next two of some Words tell, greater than the last one, if that is not None."""
    whos = [who for who in whos_of(kind, scope) if last is None or who >= last.who]
    who = words.take(*whos)
    said = [word for word in said_of(who, scope) if last is None or who > last.who or word > last.word]
    # Without words take would take any one.
    if not said:
        words.refuse()
    return Literal(who, words.take(*said))


def refuse_asked(view, deed, needs):
    """Raises what is wrong with what a clause is asked, but for the view."""
    if not isinstance(deed, Deed):
        raise BadDeed(None)
    if needs is not None and not isinstance(needs, Needs):
        raise BadNeeds("needs")
    refuse_missing(view, deed)


def own_things(view, deed):
    """The list of the pairs of an own line and an own day of a deed, which is None if it has no own days."""
    if deed.own_days():
        return [(view.line_of(day), day) for day in deed.own_days()]
    return [(line, None) for line in deed.own_lines()]


def others_of(scope, view, line, fix, needs):
    """The list of the other lines or fixes in whose cases a clause of a scope is asked."""
    if scope == "elder":
        return list(range(1, line if line > 0 else view.line_count + 1))
    if scope == "newer":
        return list(range(line + 1, view.line_count + 1)) if line > 0 else []
    if needs is None:
        return []
    told = needs[fix] if scope == "need" else needs.users(fix)
    return [other for other in told if other in view.fixes]


class Clause:
    """A kind of deed, a scope, and the literals of which some must be true in each case."""

    SCOPES = ("once", "newer", "elder", "need", "user", "day")

    def __init__(self, kind, scope, *literals):
        if kind not in Deed.KINDS:
            raise BadClause("kind")
        if scope not in scopes_of(kind):
            raise BadClause("scope")
        refuse_literals(kind, scope, literals)
        unlike = {str(literal): literal for literal in literals}
        if len(unlike) > MOST_LITERALS:
            raise TooMany("literals", MOST_LITERALS)
        self.kind = kind
        self.scope = scope
        self.literals = tuple([unlike[text] for text in sorted([str(text) for text in unlike])])
        self.per_fix = scope in ("need", "user") or any([literal.per_fix for literal in literals])
        told = [literal.feature for literal in literals]
        self.features = tuple([feature for feature in FEATURES if feature in told])

    @classmethod
    def read(cls, text):
        """The clause with this text."""
        words = Words(text)
        kinds = Deed.KINDS
        kind = words.take(*kinds)
        scopes = [f"{scope}:" for scope in scopes_of(kind)]
        scope = words.take(*scopes).removesuffix(":")
        if words.is_next("never"):
            words.take()
            words.end()
            return cls(kind, scope)
        literals = [take_literal(words, kind, scope, None)]
        while words.is_next():
            if len(literals) == MOST_LITERALS:
                words.refuse()
            words.take("or")
            literals.append(take_literal(words, kind, scope, literals[-1]))
        return cls(kind, scope, *literals)

    def __str__(self):
        if not self.literals:
            return f"{self.kind} {self.scope}: never"
        told = [str(literal) for literal in self.literals]
        return f"{self.kind} {self.scope}: {' or '.join(told)}"

    def __eq__(self, other):
        if not isinstance(other, Clause) or self.kind != other.kind:
            return False
        return self.scope == other.scope and self.literals == other.literals

    def __contains__(self, x):
        return isinstance(x, Literal) and x in self.literals

    def __len__(self):
        return len(self.literals)

    def __iter__(self):
        return iter(self.literals)

    def __or__(self, other):
        # Clause itself refuses what is no Literal.
        return Clause(self.kind, self.scope, *self.literals, other)

    def __call__(self, view, deed, needs=None):
        """Whether the clause holds of a deed at a view."""
        return self.failure(view, deed, needs) is None

    def cases(self, view, deed, needs=None):
        """A generator of the Cases in which the clause is asked of a deed at a view."""
        if not isinstance(view, View):
            raise BadClause("view")
        refuse_asked(view, deed, needs)
        if deed.KIND == self.kind:
            # A tuple of fixes serves as well as a lot.
            fixes = deed.own_fixes(view.fixes) if self.per_fix else (None,)
            for line, day in own_things(view, deed):
                for fix in fixes:
                    for other, later in self.told_by_scope(view, deed, line, fix, needs):
                        yield Case(line, fix, other, day if later is None else later)

    def told_by_scope(self, view, deed, line, fix, needs):
        """The list of the pairs of what is other and of a day of the scope, None for what there is not."""
        if self.scope == "once":
            return [(deed.mate if isinstance(deed, OfTwo) else None, None)]
        if self.scope == "day":
            return [(None, day) for day in range(1, view.day_count + 1) if view.line_of(day) == line]
        return [(other, None) for other in others_of(self.scope, view, line, fix, needs)]

    def failure(self, view, deed, needs=None):
        """The first Case in which no literal is true, None if there is none."""
        for case in self.cases(view, deed, needs):
            if not any([literal(view, case) for literal in self.literals]):
                return case
        return None
