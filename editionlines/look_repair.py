"""Whether what is told of mendings and repairs is right, looked at without a search."""

from editionlines.bounds import LINES
from editionlines.checks import is_just, is_rising
from editionlines.repair import Mending, NoRepair, Repair, Unmended, least_repair, mending, up_lines


def is_same_mending(value, told):
    """Whether any value is just this Mending or Unmended."""
    return type(value) is type(told) and is_just(value.held(), told.held())


def shows_mending(history, value):
    """Whether any value is a Mending or an Unmended of a history, for some lines that stay."""
    up = up_lines(history)
    if not isinstance(value, (Mending, Unmended)) or not is_rising(value.stays, 1, LINES):
        return False
    return all([line in up for line in value.stays]) and is_same_mending(value, mending(history, value.stays))


def shows_repair(history, prices, value):
    """Whether any value is the Repair or the NoRepair of a history."""
    found = least_repair(history, prices)
    if isinstance(found, NoRepair):
        return isinstance(value, NoRepair) and is_just(value.rows, found.rows)
    if not isinstance(value, Repair) or not is_same_mending(value.mending, found.mending):
        return False
    return is_just((value.price, value.rows), (found.price, found.rows))
