"""The lines that a desk is told, read as words and things."""

from editionlines.books import Book
from editionlines.clauses import Clause
from editionlines.deeds import Deed
from editionlines.errors import BadLine, BadText
from editionlines.lots import Lot
from editionlines.needs import Needs
from editionlines.numbers import Number, is_number_word
from editionlines.ways import RULES
from editionlines.webs import Web
from editionlines.wishes import Wish
from editionlines.words import Words, take_rest

# What follows the first word of each line, but for those of deeds.
PARTS = {
    "lot": ("lot",), "needs": ("needs",), "finish": (), "book": ("book",), "clause": ("clause",), "free": ("clause",),
    "wish": ("name", "wish"), "forget": ("name",), "web": ("web",), "undo": (), "again": (), "show": (), "clauses": (),
    "names": (), "let": ("deed",), "has": ("integer",), "kept": ("name",), "judge": ("name",), "follows": ("clause",),
    "needless": (), "losses": ("rule",), "climb": ("number", "number", "integer", "lot"), "untried": (), "meetable": (),
    "takedown": (), "rollout": ("some",), "repair": (), "due": (), "late": (), "remade": ("integers",),
    "catchup": ("integers",),
}


def thing_of(part, text):
    """What a text tells as a part of a line that takes all words that follow."""
    if part == "lot":
        return Lot.read(text)
    if part == "needs":
        return Needs.read(text)
    if part == "book":
        return Book.read(text)
    if part == "clause":
        return Clause.read(text)
    if part == "wish":
        return Wish.read(text)
    return Web.read(text) if part == "web" else Deed.read(text)


def take_whole(words, part):
    """What the words that are left tell as a part of a line that takes all of them."""
    return take_rest(words, lambda text: thing_of(part, text))


def take_integer(words):
    """The integer from 0 on of at most 60 digits that the next one of some Words writes."""
    return words.take_number(0, 10 ** 60 - 1)


def take_integers(words):
    """The list of the integers that the words that are left write, of which one must be."""
    found = [take_integer(words)]
    while words.is_next():
        found.append(take_integer(words))
    return found


def take_part(words, part):
    """What the next ones of some Words tell as a part of a line that does not take all of them."""
    if part == "name":
        return words.take_fix()
    if part == "rule":
        return words.take_by(lambda word: word in RULES)
    if part == "number":
        return Number.read(words.take_by(is_number_word))
    return take_integer(words)


def take_parts(words, parts):
    """The list of what the words behind the first one tell as parts of a line."""
    things = []
    for part in parts:
        if part in ("name", "rule", "number", "integer"):
            things.append(take_part(words, part))
        elif part == "integers":
            return [take_integers(words)]
        elif part == "some":
            return [take_integers(words) if words.is_next() else []]
        else:
            return [*things, take_whole(words, part)]
    words.end()
    return things


def order_of(line):
    """The pair of the first word of a line and the list of the things that it tells; of a deed the word deed."""
    try:
        words = Words(line)
        kinds = Deed.KINDS
        if words.is_next(*kinds):
            return ("deed", [take_rest(words, lambda text: Deed.read(text))])
        word = words.take_by(lambda told: told in PARTS)
        return (word, take_parts(words, PARTS[word]))
    except BadText as error:
        raise BadLine(error.word) from error
