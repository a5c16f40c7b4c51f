"""The words that literals and facts say of places, of two lines, and of days."""

# Of each word: the word of which it is the same or the opposite, its opposite, and the feature that it looks at.
PLACE_WORDS = {
    "has": ("has", "lacks", None),
    "lacks": ("has", "has", None),
    "open": ("open", "ended", "open"),
    "ended": ("open", "open", "open"),
    "shipped": ("shipped", "unshipped", "past"),
    "unshipped": ("shipped", "shipped", "past"),
    "missed": ("missed", "unmissed", "past"),
    "unmissed": ("missed", "missed", "past"),
    "gives": ("gives", "ungives", "last"),
    "ungives": ("gives", "gives", "last"),
    "omits": ("omits", "unomits", "last"),
    "unomits": ("omits", "omits", "last"),
    "up": ("up", "unup", "live"),
    "unup": ("up", "up", "live"),
    "runs": ("runs", "unruns", "live"),
    "unruns": ("runs", "runs", "live"),
    "bares": ("bares", "unbares", "live"),
    "unbares": ("bares", "bares", "live"),
    "fresh": ("fresh", "unfresh", "live"),
    "unfresh": ("fresh", "fresh", "live"),
}
TWO_WORDS = {
    "tried": ("tried", "untried", "tries"),
    "untried": ("tried", "tried", "tries"),
    "probed": ("probed", "unprobed", "tries"),
    "unprobed": ("probed", "probed", "tries"),
    "backed": ("backed", "unbacked", "tries"),
    "unbacked": ("backed", "backed", "tries"),
    "met": ("met", "unmet", "tries"),
    "unmet": ("met", "met", "tries"),
}
DAY_WORDS = {
    "keeps": ("keeps", "unkeeps", None),
    "unkeeps": ("keeps", "keeps", None),
    "shut": ("shut", "unshut", None),
    "unshut": ("shut", "shut", None),
    "alike": ("alike", "unalike", "live"),
    "unalike": ("alike", "alike", "live"),
}
FIX_WORDS = ("has", "shipped", "missed", "gives", "omits", "runs", "bares", "keeps", "alike")


def is_place_word(word):
    """Whether any value is a word of places."""
    return isinstance(word, str) and word in PLACE_WORDS


def is_two_word(word):
    """Whether any value is a word of two lines."""
    return isinstance(word, str) and word in TWO_WORDS


def is_day_word(word):
    """Whether any value is a word of days."""
    return isinstance(word, str) and word in DAY_WORDS


def told_of(word):
    """The triple of a word of any of the three kinds."""
    if word in PLACE_WORDS:
        return PLACE_WORDS[word]
    return TWO_WORDS[word] if word in TWO_WORDS else DAY_WORDS[word]


def plain_word(word):
    """The word of which a word is the same or the opposite."""
    return told_of(word)[0]


def opposite_word(word):
    """The word that is true exactly where a word is not."""
    return told_of(word)[1]


def feature_of(word):
    """The feature that a word looks at, or None."""
    return told_of(word)[2]


def is_fix_word(word):
    """Whether a word is said about a fix."""
    return plain_word(word) in FIX_WORDS
