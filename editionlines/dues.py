"""Dues: which days must be made again, and which shut ones no longer fit."""

from editionlines.grounds import live_lot
from editionlines.ways import refuse_history


def refuse_day(history, day):
    """Raises what is wrong with a history and a day of it."""
    refuse_history(history)
    # The ground refuses any value that is none of its days.
    history.ground.line_of(day)


def word_of(ground, day):
    """The word of a day of a Ground."""
    state = ground.days[day - 1]
    lot = live_lot(ground.lines[state.line - 1])
    if lot is None:
        return "idle"
    if lot == state.lot:
        return "even"
    return "late" if state.is_shut else "due"


def day_word(history, day):
    """How a day stands to the live release of its line: idle, even, late or due."""
    refuse_day(history, day)
    return word_of(history.ground, day)


def days_with(history, word):
    """The ascending tuple of the numbers of the days with a word."""
    refuse_history(history)
    ground = history.ground
    return tuple([day for day in range(1, ground.day_count + 1) if word_of(ground, day) == word])


def due_days(history):
    """The ascending tuple of the numbers of the days that are due."""
    return days_with(history, "due")


def late_days(history):
    """The ascending tuple of the numbers of the days that are late."""
    return days_with(history, "late")


def dropped_days(history):
    """The ascending tuple of the triples (day, later, fix): two shut days of one line, and what the later one lacks."""
    refuse_history(history)
    shut = [(at + 1, state) for at, state in enumerate(history.ground.days) if state.is_shut]
    return tuple([
        (day, later, fix)
        for day, one in shut for later, other in shut if day < later and one.line == other.line
        for fix in one.lot if fix not in other.lot
    ])
