"""Whether what is told of what to take down is right."""

from editionlines.checks import is_just
from editionlines.takedowns import Takedown, takedown


def shows_takedown(history, value, prices=None):
    """Whether any value is the Takedown of a history."""
    found = takedown(history, prices)
    return isinstance(value, Takedown) and is_just(value.held(), found.held())
