"""What deeds are made of, as plain values: checked, read from words, and cut down."""

from editionlines.bounds import DAYS, LINES
from editionlines.checks import is_fix, is_integer, is_within
from editionlines.errors import BadDeed, BadFix, NoDay, NoLine


def checked_fix(fix):
    """A value, which must be a fix."""
    if not is_fix(fix):
        raise BadFix(fix)
    return fix


def checked_line(line, least=1):
    """A value, which must be the number of a line, and least or more."""
    if not is_within(line, least, LINES):
        raise NoLine(line)
    return line


def checked_mate(mate, line):
    """A value, which must be the number of a line other than this one."""
    if checked_line(mate) == line:
        raise NoLine(mate)
    return mate


def checked_day(day, least=1):
    """A value, which must be the number of a day, and least or more."""
    if not is_within(day, least, DAYS):
        raise NoDay(day)
    return day


def checked_lines(lines):
    """A tuple of values, which must be the ascending numbers of some lines."""
    if not lines:
        raise BadDeed(None)
    last = 0
    for line in lines:
        last = checked_line(line, last + 1)
    return lines


def checked_days(days):
    """A tuple of values, which must be the ascending numbers of some days."""
    if not days:
        raise BadDeed(None)
    last = 0
    for day in days:
        last = checked_day(day, last + 1)
    return days


def is_stop(upto, named):
    """Whether a value is None, or one of some numbers that is not the last of them."""
    return upto is None or (is_integer(upto) and upto in named[:-1])


def line_stop(upto, lines):
    """A value, which must tell where a deed on these lines can be stopped."""
    if not is_stop(upto, lines):
        raise NoLine(upto)
    return upto


def day_stop(upto, days):
    """A value, which must tell where a deed on these days can be stopped."""
    if not is_stop(upto, days):
        raise NoDay(upto)
    return upto


def take_named(words, kind):
    """What a deed of a kind names, but for its stop: the next ones of some Words, as a tuple."""
    if kind in ("fix", "unfix"):
        return (words.take_fix(),)
    if kind in ("carry", "drop"):
        fix = words.take_fix()
        return (fix, words.take_number(1, LINES))
    if kind == "cut":
        return ()
    if kind in ("try", "probe", "meet"):
        line = words.take_number(1, LINES)
        return (line, take_mate(words, kind, line))
    if kind in ("redo", "shut"):
        return (words.take_number(1, DAYS),)
    if kind == "renew":
        return take_rising(words, DAYS)
    if kind in ("rise", "night"):
        return take_rising(words, LINES)
    return (words.take_number(1, LINES),)


def take_mate(words, kind, line):
    """The next one of some Words, which must be the number of a mate of a line."""
    if kind != "probe":
        return words.take_number(line + 1, LINES)
    if words.is_next(str(line)):
        words.refuse()
    return words.take_number(1, LINES)


def take_rising(words, most):
    """The next ones of some Words, up to a stop or the end: ascending numbers up to most."""
    named = [words.take_number(1, most)]
    while words.is_next() and not words.is_next("to"):
        named.append(words.take_number(named[-1] + 1, most))
    return tuple(named)


def take_stop(words, kind, named):
    """Where a deed of a kind that names this is stopped, by the words that are left; None if it is not."""
    if kind == "merge" and words.is_next("to"):
        words.take()
        return words.take_fix()
    if kind in ("rise", "night", "renew") and len(named) > 1 and words.is_next("to"):
        words.take()
        stops = [str(number) for number in named[:-1]]
        return int(words.take(*stops))
    return None


def new_number(number, numbers):
    """The number of a thing, if just those with these numbers are kept; None if it is not."""
    return numbers.index(number) + 1 if number in numbers else None


def stop_among(things, upto):
    """What is left of a stop if of the things of a deed just these are kept: a pair.

    Whether the deed is done for some of them, and the stop, None if it is done for all of them.
    """
    done = [thing for thing in things if upto is None or thing <= upto]
    if not done or len(done) == len(things):
        return (bool(done), None)
    return (True, done[-1])
