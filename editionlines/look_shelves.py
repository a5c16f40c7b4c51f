"""Whether what is told of the choices of a shelf is right, looked at without a search."""

from editionlines.checks import is_rising, is_within
from editionlines.judging import Broken, Holds
from editionlines.look_judging import shows_judged
from editionlines.shelves import Choices, Choosing, NoChoice, is_met, lies_in


def is_row(asked, book, value):
    """Whether any value is a pair of the index of a wish and a right Broken of it under a book."""
    if not isinstance(value, tuple) or len(value) != 2 or not is_within(value[0], 0, len(asked.wishes) - 1):
        return False
    return isinstance(value[1], Broken) and shows_judged(book, asked.wishes[value[0]], value[1])


def are_holds(asked, choice, value):
    """Whether any value is a tuple of a right Holds of each wish under a choice."""
    if not isinstance(value, tuple) or len(value) != len(asked.wishes):
        return False
    book = asked.book_with(choice)
    return all([isinstance(one, Holds) and shows_judged(book, wish, one) for one, wish in zip(value, asked.wishes)])


def is_choice(asked, value):
    """Whether any value is an ascending tuple of indexes of clauses that are not out."""
    return is_rising(value, 0, len(asked.shelf) - 1) and all([at in asked.free for at in value])


def are_least(asked, least):
    """Whether any value is a tuple of one choice or more, in order, none within another one."""
    if not isinstance(least, tuple) or not least or not all([is_choice(asked, choice) for choice in least]):
        return False
    if not all([(len(one), one) < (len(other), other) for one, other in zip(least, least[1:])]):
        return False
    return not any([lies_in(one, other) for one in least for other in least if one != other])


def are_rows(asked, least, rows):
    """Whether any value is a tuple of right rows such that each choice in which none of some lies lets one of them."""
    if not isinstance(rows, tuple) or not all([is_row(asked, asked.base, row) for row in rows]):
        return False
    refused = [asked.shelf.refusers(row[1].history) for row in rows]
    others = [choice for choice in asked.all_choices() if not any([lies_in(told, choice) for told in least])]
    return not any([is_met(choice, refused) for choice in others])


def shows_choices(shelf, wishes, value, ground=None, musts=()):
    """Whether any value is a right answer to which choices of a shelf keep wishes."""
    asked = Choosing(shelf, wishes, ground, musts)
    if isinstance(value, NoChoice):
        return is_row(asked, asked.book_with(asked.free), value.row)
    if not isinstance(value, Choices) or not are_least(asked, value.least):
        return False
    if not isinstance(value.holds, tuple) or len(value.holds) != len(value.least):
        return False
    if not all([are_holds(asked, choice, told) for choice, told in zip(value.least, value.holds)]):
        return False
    return are_rows(asked, value.least, value.rows)
