"""Deeds: what can be done in a project."""

from editionlines.deedparts import checked_day, checked_days, checked_fix, checked_line, checked_lines, checked_mate
from editionlines.deedparts import day_stop, line_stop, new_number, stop_among, take_named, take_stop
from editionlines.words import Words


class Deed:
    """The base of all deeds. Each one tells in named what it names, but for its stop."""

    KINDS = ("fix", "unfix", "carry", "drop", "merge", "cut", "end", "offer", "try", "probe", "meet",
             "live", "rise", "down", "day", "night", "redo", "renew", "shut")
    KIND = ""

    @staticmethod
    def read(text):
        """The deed with this text."""
        words = Words(text)
        kinds = Deed.KINDS
        kind = words.take(*kinds)
        named = take_named(words, kind)
        upto = take_stop(words, kind, named)
        words.end()
        return deed_of(kind, named, upto)

    def __str__(self):
        told = [self.KIND, *[str(part) for part in self.named()]]
        if self.stop() is not None:
            told = [*told, "to", str(self.stop())]
        return " ".join(told)

    def __eq__(self, other):
        return isinstance(other, Deed) and str(self) == str(other)

    def named(self):
        """The tuple of the fix, lines or days that are named, in the order of the text, but for the stop."""
        return ()

    def stop(self):
        """Where the deed is stopped, None if it is not."""
        return None

    def named_fixes(self):
        """The tuple of the fixes that are named, also as a stop."""
        return tuple([part for part in (*self.named(), self.stop()) if isinstance(part, str)])

    def named_lines(self):
        """The tuple of the lines that are named."""
        return tuple([part for part in self.named() if isinstance(part, int)])

    def own_lines(self):
        """The tuple of the own lines, 0 for main; of deeds on days there are none."""
        return self.named_lines()

    def own_days(self):
        """The tuple of the own days."""
        return ()

    def own_fixes(self, lot):
        """The tuple of the fixes out of a lot that the deed concerns."""
        told = [part for part in self.named() if isinstance(part, str)]
        return tuple([fix for fix in lot if not told or fix in told])

    def cut_to(self, lot, lines, days):
        """What is left of the deed if just some fixes, lines and days are kept; None if it is left out."""
        fixes = [part for part in self.named() if isinstance(part, str)]
        numbers = [new_number(line, lines) for line in self.named_lines()]
        if None in numbers or not all([fix in lot for fix in fixes]):
            return None
        return deed_of(self.KIND, (*fixes, *numbers), None)


class OnMain(Deed):
    """The base of the deeds on main."""

    def own_lines(self):
        return (0,)


class OnLine(Deed):
    """The base of the deeds on one line."""

    def named(self):
        return (self.line,)


class OfTwo(Deed):
    """The base of the deeds that try two releases beside one another."""

    def named(self):
        return (self.line, self.mate)

    def own_lines(self):
        return (self.line,)


class OfMany(Deed):
    """The base of the deeds on many, which can be stopped."""

    def stop(self):
        return self.upto

    def cut_to(self, lot, lines, days):
        return cut_many(self, [line for line in self.named_lines() if line in lines], lines)


class OfDay(Deed):
    """The base of the deeds on days."""

    def named(self):
        return (self.day,)

    def named_lines(self):
        return ()

    def own_days(self):
        return self.named()

    def cut_to(self, lot, lines, days):
        return cut_many(self, [day for day in self.named() if day in days], days)


def cut_many(deed, still, numbers):
    """What is left of a deed on lines or days if of its own ones these are still named.

    They are numbered by their places among the numbers of all that are kept.
    """
    is_done, upto = stop_among(still, deed.stop())
    if not is_done:
        return None
    named = [new_number(number, numbers) for number in still]
    return deed_of(deed.KIND, named, None if upto is None else new_number(upto, numbers))


def deed_of(kind, named, upto):
    """The deed of a kind that names this, in the order of its text, and is stopped there."""
    if kind == "merge":
        return Merge(*named, upto)
    if kind == "rise":
        return Rise(*named, upto=upto)
    if kind == "night":
        return Night(*named, upto=upto)
    if kind == "renew":
        return Renew(*named, upto=upto)
    if kind in ("try", "probe", "meet", "redo", "shut", "cut"):
        return other_deed_of(kind, named)
    return line_deed_of(kind, named)


def line_deed_of(kind, named):
    """As deed_of, of the deeds on a fix, and of those on one line that cannot be stopped."""
    if kind == "fix":
        return Fix(*named)
    if kind == "unfix":
        return Unfix(*named)
    if kind == "carry":
        return Carry(*named)
    if kind == "drop":
        return Drop(*named)
    if kind == "end":
        return End(*named)
    if kind == "offer":
        return Offer(*named)
    if kind == "live":
        return Live(*named)
    return Down(*named) if kind == "down" else Day(*named)


def other_deed_of(kind, named):
    """As deed_of, of a cut, of the deeds of two lines, and of those on one day."""
    if kind == "cut":
        return Cut()
    if kind == "try":
        return Try(*named)
    if kind == "probe":
        return Probe(*named)
    if kind == "meet":
        return Meet(*named)
    return Redo(*named) if kind == "redo" else Shut(*named)


class Fix(OnMain):
    """Main gets a fix."""

    KIND = "fix"

    def __init__(self, fix):
        self.fix = checked_fix(fix)

    def named(self):
        return (self.fix,)


class Unfix(OnMain):
    """Main loses a fix."""

    KIND = "unfix"

    def __init__(self, fix):
        self.fix = checked_fix(fix)

    def named(self):
        return (self.fix,)


class Cut(OnMain):
    """A new line is cut from main."""

    KIND = "cut"


class Carry(OnLine):
    """A line gets a fix."""

    KIND = "carry"

    def __init__(self, fix, line):
        self.fix = checked_fix(fix)
        self.line = checked_line(line)

    def named(self):
        return (self.fix, self.line)


class Drop(OnLine):
    """A line loses a fix."""

    KIND = "drop"

    def __init__(self, fix, line):
        self.fix = checked_fix(fix)
        self.line = checked_line(line)

    def named(self):
        return (self.fix, self.line)


class Merge(OnLine, OfMany):
    """A line gets each fix that main has, up to the stop."""

    KIND = "merge"

    def __init__(self, line, upto=None):
        self.line = checked_line(line)
        self.upto = None if upto is None else checked_fix(upto)

    def cut_to(self, lot, lines, days):
        if self.line not in lines:
            return None
        is_done, upto = stop_among(list(lot), self.upto)
        # Without a stop a merge stays, also if no fix is left.
        if self.upto is not None and not is_done:
            return None
        return Merge(new_number(self.line, lines), upto)


class End(OnLine):
    """A line is ended."""

    KIND = "end"

    def __init__(self, line):
        self.line = checked_line(line)


class Offer(OnLine):
    """A release of a line is offered."""

    KIND = "offer"

    def __init__(self, line):
        self.line = checked_line(line)


class Live(OnLine):
    """The last release of a line goes live."""

    KIND = "live"

    def __init__(self, line):
        self.line = checked_line(line)


class Down(OnLine):
    """The live release of a line is taken down."""

    KIND = "down"

    def __init__(self, line):
        self.line = checked_line(line)


class Day(OnLine):
    """A day is made with the live release of a line."""

    KIND = "day"

    def __init__(self, line):
        self.line = checked_line(line)


class Try(OfTwo):
    """The last releases of two lines are tried."""

    KIND = "try"

    def __init__(self, line, mate):
        self.line = checked_line(line)
        self.mate = checked_line(mate, line + 1)


class Probe(OfTwo):
    """The last release of a line is tried with the live one of another line."""

    KIND = "probe"

    def __init__(self, line, mate):
        self.line = checked_line(line)
        self.mate = checked_mate(mate, line)


class Meet(OfTwo):
    """The live releases of two lines are tried."""

    KIND = "meet"

    def __init__(self, line, mate):
        self.line = checked_line(line)
        self.mate = checked_line(mate, line + 1)


class Rise(OfMany):
    """The last releases of lines go live, up to the stop."""

    KIND = "rise"

    def __init__(self, *lines, upto=None):
        self.lines = checked_lines(lines)
        self.upto = line_stop(upto, lines)

    def named(self):
        return self.lines


class Night(OfMany):
    """A day is made with the live release of each of some lines, up to the stop."""

    KIND = "night"

    def __init__(self, *lines, upto=None):
        self.lines = checked_lines(lines)
        self.upto = line_stop(upto, lines)

    def named(self):
        return self.lines


class Redo(OfDay):
    """A day is made again."""

    KIND = "redo"

    def __init__(self, day):
        self.day = checked_day(day)


class Renew(OfDay, OfMany):
    """Some days are made again, up to the stop."""

    KIND = "renew"

    def __init__(self, *days, upto=None):
        self.days = checked_days(days)
        self.upto = day_stop(upto, days)

    def named(self):
        return self.days


class Shut(OfDay):
    """A day is shut."""

    KIND = "shut"

    def __init__(self, day):
        self.day = checked_day(day)
