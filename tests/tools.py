"""What the tests share: any values, errors with their fields, spoilt texts, random histories."""

import itertools
import random
import unittest

from editionlines.books import Book
from editionlines.catchups import Never, Over
from editionlines.clauses import Case, Clause
from editionlines.climbs import Climb, NoClimb
from editionlines.compared import Follows, Parting, Within
from editionlines.deeds import Cut, Deed, Fix, Night
from editionlines.desk import Desk
from editionlines.errors import BadFix, BadText, EditionError
from editionlines.grounds import Ground, LineState
from editionlines.histories import History
from editionlines.judging import Broken, Holds, Judge
from editionlines.kinds import FEATURES, Kind, closed
from editionlines.literals import Literal
from editionlines.lots import Lot
from editionlines.needs import Needs
from editionlines.notes import Note
from editionlines.numbers import Number, Release
from editionlines.prices import Prices
from editionlines.projects import Project
from editionlines.repair import Mending, NoRepair, Repair, Unmended
from editionlines.rollouts import Rollout, Stuck
from editionlines.shelves import Choices, NoChoice, Shelf
from editionlines.standings import Standing
from editionlines.stands import LineStand
from editionlines.takedowns import Takedown
from editionlines.webs import Again, Web
from editionlines.wishes import DAY_LETTERS, LINE_LETTERS, Fact, Wish
from editionlines.words import Words

RELEASE_KINDS = ("offer", "offer", "live", "live", "rise", "down", "try", "probe", "meet", "meet", "carry", "fix", "end")
DAY_KINDS = ("offer", "live", "live", "down", "carry", "drop", "day", "night", "night", "redo", "renew", "shut")
ALL_FEATURES = [words for many in range(6) for words in itertools.combinations(FEATURES, many) if closed(words) == words]


def any_values():
    """Values of each kind, made anew."""
    return [
        None, True, False, 0, 1, -1, 2, 7, 59, 60, 10 ** 39, -10 ** 39, "", " ", "-", "f", "g", "F", "f g", "f\n", "1", "1.0",
        "abcdefgh", "abcdefghi", "x" * 6000, "9" * 6000, "cut", "fix f", "own open", "kind 0 0", (), (1,), ("f",), ("f", "g"),
        (1, "f"), [], [1], ["f"], [None], {}, {"f": ["g"]}, {1: []}, {"f": "g"}, len, lambda: 1, Lot(), Lot("f"), Number(1, 0),
        Release(Number(1, 0), Lot()), Needs(), Needs({"f": ["g"]}), Fix("f"), Cut(), Night(1, 2), Literal("own", "open"),
        Clause("cut", "once"), Book(), Book(Clause("cut", "once")), History(Lot()), Ground(Lot("f")), LineState(Lot()),
        Case(1, None, None, None), Kind(0, 0), Words("x y"), BadFix(1), Lot, [[["f"], {"a": (1, 2)}]],
        Standing.starts(Kind(1, 0))[0], LineStand((), True, (), None, None, False), Fact("A", "up"), Wish(Kind(0, 0)),
        Project(Lot("f")), Holds(()), Broken(None, {}), Judge(), Follows(()), Within(()), Parting(None), Shelf(),
        Choices((), (), ()), NoChoice(None), Note(Lot(), Lot()), Climb(()), NoClimb(()), Release(None, None),
        Takedown((), 0), Rollout(()), Stuck(()), Web(), Web((1, 1, 0)), Again((), ()), Over(0), Never(0, 1), Prices(), Desk(),
        Mending((), (), (), (), (), (), ()), Unmended((1,), (), 1), Repair(0, None, ()), NoRepair(()),
    ]


def same(one, other):
    """Whether two values are of one kind and equal."""
    if type(one) is not type(other):
        return False
    if isinstance(one, (list, tuple)):
        return len(one) == len(other) and all(same(a, b) for a, b in zip(one, other))
    return one is other or bool(one == other)


class EditionTest(unittest.TestCase):
    """A test that knows the errors of the package."""

    def refuses(self, error, call, *args, **named):
        """The call must raise an error of just this class with just these fields."""
        try:
            told = call(*args, **named)
            if hasattr(told, "__next__"):
                told = next(told)
        except EditionError as found:
            self.assertIs(type(found), type(error), (found, args, named))
            self.assertEqual(sorted(vars(found)), sorted(vars(error)))
            for name, value in vars(error).items():
                self.assertTrue(same(vars(found)[name], value), (name, vars(found)[name], value))
            return
        self.fail(f"{args!r}, {named!r}: {told!r} instead of {error!r}")

    def refuses_words(self, read, rows):
        """read must tell of each of some texts that this word of it cannot stand."""
        for text, word in rows:
            with self.subTest(text=text):
                self.refuses(BadText(0, word), read, text)

    def refuses_no_texts(self, read):
        """read must tell word 0 of each value that is no string."""
        for value in any_values():
            if not isinstance(value, str):
                self.refuses(BadText(0, 0), read, value)

    def holds_both_ways(self, read, texts):
        """read and str must be the inverse of one another on these texts."""
        for text in texts:
            with self.subTest(text=text):
                self.assertEqual(str(read(text)), text)
                self.assertEqual(read(text), read(str(read(text))))

    def looks_at_spoilt(self, read, text, more=()):
        """Each spoilt text must be read as the object with this text, or be refused at a word that cannot stand.

        Then the words ahead of it can stand by themselves, and no words behind it change what is told.
        """
        for spoilt in spoilt_texts(text, more):
            words = spoilt.split(" ")
            at = refused_at(read, spoilt)
            if at is None:
                continue
            with self.subTest(spoilt=spoilt):
                self.assertTrue(0 <= at <= len(words))
                if at < len(words):
                    for tail in ([], ["zz9"], words[at + 1:] * 2, text.split(" ")):
                        self.assertEqual(refused_at(read, " ".join(words[:at + 1] + tail)), at)
                if at > 0:
                    self.assertIn(refused_at(read, " ".join(words[:at])), (None, at))


def refused_at(read, text):
    """The word at which read refuses a text; None if it reads it, or if the class refuses what it tells."""
    try:
        found = read(text)
    except BadText as error:
        assert error.line == 0
        return error.word
    except EditionError:
        return None
    assert str(found) == text
    return None


def spoilt_texts(text, more=()):
    """Texts with a word left out, doubled, exchanged, put in, or cut off."""
    words = text.split(" ")
    found = {}
    for k in range(len(words)):
        found[" ".join(words[:k] + words[k + 1:])] = True
        found[" ".join(words[:k] + [words[k]] + words[k:])] = True
        found[" ".join(words[:k])] = True
        for other in list(more) + ["", "x y", "0", "99", "-", "zz9", "own", "f", "to"]:
            found[" ".join(words[:k] + [other] + words[k:])] = True
            found[" ".join(words[:k] + [other] + words[k + 1:])] = True
        for n in range(k):
            changed = list(words)
            changed[n], changed[k] = changed[k], changed[n]
            found[" ".join(changed)] = True
    for put in (" " + text, text + " ", text + " " + text, text + " x"):
        found[put] = True
    found.pop(text, None)
    return list(found)


def random_deed(rng, fixes, lines, days, kinds=Deed.KINDS):
    """A deed of any of some kinds, which perhaps cannot be done."""
    kind = rng.choice(kinds if lines > 1 else [kind for kind in kinds if kind not in ("try", "probe", "meet")])
    fix = rng.choice(list(fixes) or ["f"])
    some = sorted(rng.sample(range(1, lines + 1), rng.randint(1, lines)))
    several = sorted(rng.sample(range(1, days + 1), rng.randint(1, min(days, 3))))
    words = [kind]
    if kind in ("fix", "unfix", "carry", "drop"):
        words.append(fix)
    if kind in ("carry", "drop", "merge", "end", "offer", "live", "down", "day"):
        words.append(rng.randint(1, lines))
    if kind in ("try", "probe", "meet"):
        pair = rng.sample(range(1, lines + 1), 2)
        words += pair if kind == "probe" else sorted(pair)
    if kind in ("rise", "night"):
        words += some
        if len(some) > 1 and rng.random() < 0.5:
            words += ["to", rng.choice(some[:-1])]
    if kind in ("redo", "shut"):
        words.append(rng.randint(1, days))
    if kind == "renew":
        words += several
        if len(several) > 1 and rng.random() < 0.5:
            words += ["to", rng.choice(several[:-1])]
    if kind == "merge" and rng.random() < 0.5:
        words += ["to", fix]
    return Deed.read(" ".join(map(str, words)))


def random_history(rng, fixes=("f", "g", "h"), lines=3, days=4, many=25, needs=None):
    """A history of deeds that are taken at random out of those that can be done."""
    history = History(Lot(*fixes), (), needs)
    for _ in range(many * 4):
        deed = random_deed(rng, fixes, lines, days)
        if deed.KIND == "cut" and history.ground.line_count == lines:
            continue
        if deed.KIND in ("end", "shut", "down") and rng.random() < 0.7:
            continue
        if history.ground.can(deed) and len(history) < many:
            history = history + deed
    return history


def busy_history(rng, lines=4, many=25, fixes=("f", "g"), days=6, kinds=(), needs=None):
    """A history whose lines are all there from its beginning, of deeds of some kinds that can be done."""
    history = History(Lot(*fixes), [Cut()] * lines, needs)
    for _ in range(many * 5):
        deed = random_deed(rng, fixes, lines, days, kinds or RELEASE_KINDS)
        if len(history) < many + lines and history.ground.can(deed):
            history = history + deed
    return history


def random_literal(rng, kind, scope):
    """A literal that a clause of a kind and a scope can have."""
    place = "has lacks open ended shipped unshipped missed unmissed gives ungives omits unomits up unup runs unruns bares " \
            "unbares fresh unfresh".split()
    two = "tried untried probed unprobed backed unbacked met unmet".split()
    texts = [f"{who} {word}" for who in ("own", "main") for word in place]
    if kind in ("try", "probe", "meet"):
        texts += [f"mate {word}" for word in place + two]
    if scope in ("newer", "elder"):
        texts += [f"other {word}" for word in place + two] * 2
    if scope in ("need", "user"):
        texts += [f"other {word}" for word in place] * 2
    if kind in ("redo", "renew", "shut") or scope == "day":
        texts += [f"day {word}" for word in "keeps unkeeps shut unshut alike unalike".split()] * 5
    return Literal.read(rng.choice(texts))


def random_clause(rng, kind=None):
    """A clause of any kind, or of this one."""
    kind = kind or rng.choice(Deed.KINDS)
    scopes = ["once"] if kind in ("try", "probe", "meet") else ["once", "newer", "elder", "need", "user", "day"]
    if kind in ("redo", "renew", "shut"):
        scopes.remove("day")
    scope = rng.choice(scopes)
    return Clause(kind, scope, *[random_literal(rng, kind, scope) for _ in range(rng.randint(0, 4))])


def random_book(rng, many=3, kinds=None):
    """A book of at most so many clauses, of any kinds of deeds or of some of these."""
    return Book(*[random_clause(rng, rng.choice(kinds) if kinds else None) for _ in range(rng.randint(0, many))])


def random_kind(rng):
    """A kind of standings."""
    lines = rng.randint(0, 2)
    return Kind(rng.randint(0, 2), lines, [rng.randint(1, lines) for _ in range(rng.randint(0, 2))] if lines else ())


def random_fact(rng, kind):
    """A fact of a kind."""
    letters = ["main", *LINE_LETTERS[:kind.lines], *DAY_LETTERS[:len(kind.days)]]
    place = "has lacks open ended shipped unshipped missed unmissed gives ungives omits unomits up unup runs unruns bares " \
            "unbares fresh unfresh".split()
    while True:
        subject = rng.choice(letters)
        texts = [f"{subject} {word}" for word in "keeps unkeeps shut unshut alike unalike".split()]
        if subject not in DAY_LETTERS:
            texts = [f"{subject} {word}" for word in place]
        if subject in LINE_LETTERS and kind.lines == 2:
            other = "B" if subject == "A" else "A"
            texts += [f"{subject} {word} {other}" for word in "tried unprobed backed unmet".split()]
        text = rng.choice(texts)
        for told in (text, f"{text} {rng.choice('FG'[:kind.fixes] or 'F')}"):
            try:
                fact = Fact.read(told)
            except BadText:
                continue
            if fact.thing is None or fact.thing in "AB" or (fact.thing in "FG"[:kind.fixes]):
                return fact


def random_wish(rng, kind, many=3):
    """A wish of a kind with at most so many facts."""
    return Wish(kind, *[random_fact(rng, kind) for _ in range(rng.randint(0, many))])


def randoms(name, many):
    """So many sources of randomness, the same ones at each run."""
    return [random.Random(f"{name} {k}") for k in range(many)]
