"""Wishes: facts of few things that should never be true together."""

from editionlines.errors import BadFact, BadNeeds, BadWish, TooMany
from editionlines.kinds import Kind, closed, take_kind_numbers
from editionlines.needs import Needs
from editionlines.views import View
from editionlines.vocabulary import DAY_WORDS, PLACE_WORDS, TWO_WORDS
from editionlines.vocabulary import feature_of, is_day_word, is_fix_word, is_place_word, is_two_word, opposite_word
from editionlines.words import Words

FIX_LETTERS = ("F", "G")
LINE_LETTERS = ("A", "B")
DAY_LETTERS = ("D", "E")
MOST_FACTS = 8


def things_said(subject, word):
    """The tuple of what can stand behind a word that is said of a subject: letters, or None alone."""
    if is_two_word(word):
        return ("B",) if subject == "A" else ("A",)
    return FIX_LETTERS if is_fix_word(word) else (None,)


def can_say(subject, word):
    """Whether any value is a word that is said of a subject."""
    if subject in DAY_LETTERS:
        return is_day_word(word)
    return is_place_word(word) or (subject in LINE_LETTERS and is_two_word(word))


def letters_of(kind):
    """The list of the letters of a Kind, in order."""
    return [*FIX_LETTERS[:kind.fixes], *LINE_LETTERS[:kind.lines], *DAY_LETTERS[:len(kind.days)]]


def take_fact(words, letters):
    """The Fact with some letters that the next ones of some Words tell."""
    subjects = [letter for letter in letters if letter not in FIX_LETTERS]
    subject = words.take("main", *subjects)
    said = list(DAY_WORDS) if subject in DAY_LETTERS else list(PLACE_WORDS)
    if subject in LINE_LETTERS and "B" in letters:
        said = [*said, *list(TWO_WORDS)]
    word = words.take(*said)
    things = [thing for thing in things_said(subject, word) if thing is not None]
    if not things:
        return Fact(subject, word)
    can_stand = [thing for thing in things if thing in letters]
    # Without words take would take any one.
    if not can_stand:
        words.refuse()
    return Fact(subject, word, words.take(*can_stand))


def take_facts(words, letters):
    """The list of the Facts with some letters that the words that are left tell."""
    facts = [take_fact(words, letters)]
    while words.is_next():
        if len(facts) == MOST_FACTS:
            words.refuse()
        words.take(",")
        last = facts[-1]
        spot = words.spot
        # No fact of a lesser subject is greater than the one ahead, whatever follows.
        later = [subject for subject in ("main", *letters) if subject >= last.subject]
        if not words.is_next(*later):
            words.refuse()
        fact = take_fact(words, letters)
        if str(fact) <= str(last):
            words.refuse_at(spot)
        facts.append(fact)
    return facts


class Fact:
    """A word that is asked of main, a line or a day of a wish."""

    def __init__(self, subject, word, thing=None):
        if not (subject == "main" or subject in LINE_LETTERS or subject in DAY_LETTERS):
            raise BadFact("subject")
        if not can_say(subject, word):
            raise BadFact("word")
        if thing not in things_said(subject, word):
            raise BadFact("thing")
        self.subject = subject
        self.word = word
        self.thing = thing

    @staticmethod
    def read(text):
        """The fact with this text."""
        words = Words(text)
        fact = take_fact(words, [*FIX_LETTERS, *LINE_LETTERS, *DAY_LETTERS])
        words.end()
        return fact

    def __str__(self):
        if self.thing is None:
            return f"{self.subject} {self.word}"
        return f"{self.subject} {self.word} {self.thing}"

    def __eq__(self, other):
        if not isinstance(other, Fact) or self.subject != other.subject:
            return False
        return self.word == other.word and self.thing == other.thing

    def __invert__(self):
        return Fact(self.subject, opposite_word(self.word), self.thing)

    def letters(self):
        """The list of the letters of the fact."""
        return [letter for letter in (self.subject, self.thing) if letter not in ("main", None)]

    def is_true_of(self, view, things):
        """Whether the fact is true at a View of the things for which its letters stand."""
        place = things.get(self.subject, 0)
        if self.subject in DAY_LETTERS:
            return view.day_tells(self.word, place, things.get(self.thing))
        if self.thing in LINE_LETTERS:
            return view.two_tell(self.word, place, things[self.thing])
        return view.place_tells(self.word, place, things.get(self.thing))


class Wish:
    """A kind, and facts that should never be true together of its things."""

    def __init__(self, kind, *facts):
        if not isinstance(kind, Kind):
            raise BadWish("kind")
        letters = letters_of(kind)
        for at, fact in enumerate(facts):
            if not isinstance(fact, Fact) or not all([letter in letters for letter in fact.letters()]):
                raise BadFact(at)
        unlike = {str(fact): fact for fact in facts}
        if len(unlike) > MOST_FACTS:
            raise TooMany("facts", MOST_FACTS)
        self.kind = kind
        self.facts = tuple([unlike[text] for text in sorted([str(text) for text in unlike])])
        told = [feature_of(fact.word) for fact in self.facts]
        if kind.days:
            told.append("live")
        self.features = closed(tuple([feature for feature in told if feature is not None]))

    @staticmethod
    def read(text):
        """The wish with this text."""
        words = Words(text)
        words.take("never")
        kind = take_kind_numbers(words)
        words.take(":")
        facts = []
        if words.is_next("-"):
            words.take()
            words.end()
        else:
            facts = take_facts(words, letters_of(kind))
        return Wish(kind, *facts)

    @staticmethod
    def for_users():
        """No user of a line loses a fix by going to a newer line that is up."""
        return Wish.read("never 1 2 : A runs F , B bares F , B up")

    @staticmethod
    def for_testers():
        """All live releases of two lines have been tried."""
        return Wish.read("never 0 2 : A unmet B , A up , B up")

    @staticmethod
    def for_clerks():
        """No fix of a shut day is missing in a later one of its line that is shut."""
        return Wish.read("never 1 1 1 1 : D keeps F , D shut , E shut , E unkeeps F")

    @staticmethod
    def for_needs():
        """No live release has a fix without one that it needs."""
        return Wish.read("never 2 1 : A bares G , A runs F")

    @staticmethod
    def for_all():
        """One that looks at a fix, two lines and two days."""
        return Wish.read("never 1 2 2 : A runs F , A unmet B , D shut , D unkeeps F")

    def __str__(self):
        numbers = self.kind.number_words()
        facts = [str(fact) for fact in self.facts]
        return f"never {' '.join(numbers)} : {' , '.join(facts) or '-'}"

    def __eq__(self, other):
        return isinstance(other, Wish) and self.kind == other.kind and self.facts == other.facts

    def __le__(self, other):
        if not isinstance(other, Wish):
            raise BadWish("other")
        return self.kind == other.kind and all([fact in self.facts for fact in other.facts])

    def __contains__(self, x):
        return isinstance(x, Fact) and x in self.facts

    def __len__(self):
        return len(self.facts)

    def __iter__(self):
        return iter(self.facts)

    def with_fact(self, fact):
        """The wish with one more fact."""
        if not isinstance(fact, Fact):
            raise BadWish("other")
        return Wish(self.kind, *self.facts, fact)

    def breaks(self, view, needs=None):
        """A generator of all dicts from letters to the things of a View that break the wish."""
        if not isinstance(view, View):
            raise BadWish("view")
        if needs is not None and not isinstance(needs, Needs):
            raise BadNeeds("needs")
        for things in self.breaking(view, needs):
            yield dict(things)

    def breaking(self, view, needs):
        """The list of the dicts that break tells."""
        letters = letters_of(self.kind)
        found = [{}]
        for many in range(1, len(letters) + 1):
            ahead = letters[:many]
            # A fact is asked as soon as all its letters are told.
            asked = [fact for fact in self.facts if letters[many - 1] in fact.letters()
                     and all([letter in ahead for letter in fact.letters()])]
            longer = [(things, thing) for things in found for thing in self.things_behind(things, ahead, view, needs)]
            found = [{**things, ahead[-1]: thing} for things, thing in longer]
            found = [things for things in found if are_true(asked, view, things)]
        alone = [fact for fact in self.facts if not fact.letters()]
        return [things for things in found if are_true(alone, view, things)]

    def is_broken_by(self, view, things):
        """Whether all facts are true at a View of the things for which the letters stand."""
        return are_true(self.facts, view, things)

    def things_behind(self, things, letters, view, needs):
        """The ascending list of the things for which the last one of some letters can stand, behind the others."""
        letter = letters[-1]
        if letter in FIX_LETTERS:
            return fixes_behind(things, self.kind.fixes, view, needs)
        if letter in LINE_LETTERS:
            return list(range(things.get("A", 0) + 1, view.line_count + 1))
        home = things[LINE_LETTERS[self.kind.days[DAY_LETTERS.index(letter)] - 1]]
        return [day for day in range(things.get("D", 0) + 1, view.day_count + 1) if view.line_of(day) == home]

    def __call__(self, view, needs=None):
        """Whether the wish is kept at a View."""
        return not list(self.breaks(view, needs))


def fixes_behind(things, many, view, needs):
    """The ascending list of the fixes of a View for which F, or G where F is told, can stand in a wish of so many."""
    if many == 1:
        return list(view.fixes)
    needed = {fix: [other for other in view.fixes if needs is not None and other in needs[fix]] for fix in view.fixes}
    if "F" in things:
        return needed[things["F"]]
    return [fix for fix in view.fixes if needed[fix]]


def are_true(facts, view, things):
    """Whether some facts are true at a View of some things."""
    for fact in facts:
        if not fact.is_true_of(view, things):
            return False
    return True
