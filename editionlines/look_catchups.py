"""Whether what is told of days that are made again, and of catching up, is right."""

from editionlines.catchups import MOST_NIGHTS, Never, Nights, Over, is_no_less, refuse_caught
from editionlines.checks import is_just, is_rising, is_within
from editionlines.errors import BadWeb
from editionlines.ways import refuse_history
from editionlines.webs import Again, Web, again


def shows_again(history, web, days, value):
    """Whether any value is the Again of some days."""
    refuse_history(history)
    if not isinstance(web, Web):
        raise BadWeb("web")
    if not is_rising(days, 1, history.ground.day_count):
        raise BadWeb("days")
    return isinstance(value, Again) and is_just(value.held(), again(history, web, *days).held())


def is_over_behind(played, nights):
    """Whether any value is the least number of nights behind which the list is empty."""
    if not is_within(nights, 0, MOST_NIGHTS):
        return False
    for _ in range(nights):
        if not played.waiting:
            return False
        played.pass_night()
    return not played.waiting


def marks_behind(played, nights):
    """The marks of the list behind so many nights in all."""
    for _ in range(nights - played.passed):
        played.pass_night()
    return played.marks()


def is_never(played, begin, later):
    """Whether any values are two numbers of nights that show that the list never becomes empty."""
    if not is_within(later, 1, MOST_NIGHTS) or not is_within(begin, 0, later - 1):
        return False
    if (later - begin) % len(played.amounts) != 0:
        return False
    ahead = marks_behind(played, begin)
    return bool(played.waiting) and is_no_less(marks_behind(played, later), ahead)


def shows_catchup(history, web, amounts, value):
    """Whether any value is a right Over or Never."""
    refuse_caught(history, web, amounts)
    if isinstance(value, Over):
        return is_over_behind(Nights(history, web, amounts), value.nights)
    return isinstance(value, Never) and is_never(Nights(history, web, amounts), value.begin, value.later)
