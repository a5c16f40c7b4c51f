"""Tables: all standings of few things to which histories lead that a book lets."""

from editionlines.books import Book
from editionlines.errors import BadBook, BadWish, TooMany
from editionlines.gates import Gate
from editionlines.kinds import closed
from editionlines.lots import Lot
from editionlines.standings import Standing
from editionlines.wishes import Wish, letters_of

MOST_STANDINGS = 20000


def refuse_judged(book, wish):
    """Raises what is wrong with a book and a wish."""
    if not isinstance(book, Book):
        raise BadBook("book")
    if not isinstance(wish, Wish):
        raise BadWish("wish")


def features_of(book, wish):
    """The closed features that the clauses of a book and the facts of a wish look at."""
    refuse_judged(book, wish)
    return closed((*book.features, *wish.features))


def needs_of(standing):
    """The Needs of the fixes of a Standing."""
    return standing.own_needs()


def lot_of(kind):
    """The Lot of the fixes of a Kind."""
    return Lot.of(("f", "g")[:kind.fixes])


def let_deeds(book, standing):
    """A generator of the pairs of a deed and the Standing behind it, of the steps of a Standing that a book lets."""
    if not isinstance(book, Book):
        raise BadBook("book")
    needs = standing.own_needs()
    for deed, later in standing.steps():
        if book.refusal_at(standing, deed, needs) is None:
            yield deed, later


def states_behind(gate, book, standing):
    """The list of the pairs of a deed that a book lets at a Standing, and the state behind it; gate is its Gate."""
    if all([feature in standing.features for feature in book.features]):
        return gate.let_states(standing)
    # What the standing does not tell is refused when a clause asks it.
    return [(deed, later.state) for deed, later in let_deeds(book, standing)]


def walked(book, kind, features):
    """A generator of the pairs of a Standing that can be reached and a tuple of as few deeds as any that lead there."""
    if not isinstance(book, Book):
        raise BadBook("book")
    starts = Standing.starts(kind, features)
    gate = Gate(book, kind, features)
    met = {start.state: True for start in starts}
    pairs = [(start, ()) for start in starts]
    for start in starts:
        yield start, ()
    at = 0
    while at < len(pairs):
        standing, deeds = pairs[at]
        later = []
        for deed, state in states_behind(gate, book, standing):
            if state not in met:
                met[state] = True
                later.append((Standing(kind, features, state), (*deeds, deed)))
        many = len(pairs)
        for pair in later:
            if many == MOST_STANDINGS:
                raise TooMany("standings", MOST_STANDINGS)
            many += 1
            yield pair
        pairs.extend(later)
        at += 1


def reached(book, wish):
    """A generator of the pairs of a number of deeds and a Standing to which so many lead, for a book and a wish."""
    features = features_of(book, wish)
    for standing, deeds in walked(book, wish.kind, features):
        yield len(deeds), standing


def depths(book, wish):
    """The tuple of how many standings are reached by each number of deeds."""
    counts = []
    for length, _ in reached(book, wish):
        if length == len(counts):
            counts.append(0)
        counts[length] += 1
    return tuple(counts)


def things_of(standing):
    """A dict from the letters of all things of the kind of a Standing to these things."""
    many = [list(standing.names), list(range(1, standing.kind.lines + 1)), list(range(1, len(standing.kind.days) + 1))]
    return dict(zip(letters_of(standing.kind), [thing for things in many for thing in things]))


def is_broken(wish, standing):
    """Whether a wish is broken at a Standing of its kind, which tells all that it asks."""
    if standing.line_count < standing.kind.lines or standing.day_count < len(standing.kind.days):
        return False
    return wish.is_broken_by(standing, things_of(standing))


def shortest(book, wish):
    """The least number of deeds that lead to a standing at which a wish is broken, None if there is none."""
    for length, standing in reached(book, wish):
        if is_broken(wish, standing):
            return length
    return None
