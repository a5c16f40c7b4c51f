"""What kind of value any value is."""


def is_integer(value):
    """Whether a value is an int, but no bool."""
    return isinstance(value, int) and not isinstance(value, bool)


def is_within(value, least, most):
    """Whether a value is an integer from least to most."""
    return is_integer(value) and least <= value <= most


def is_rising(value, least, most):
    """Whether a value is an ascending tuple of integers from least to most."""
    if not isinstance(value, tuple) or not all([is_within(number, least, most) for number in value]):
        return False
    return all([one < other for one, other in zip(value, value[1:])])


def is_fix(value):
    """Whether a value is a string of 1 to 8 letters from a to z."""
    if not isinstance(value, str) or not 1 <= len(value) <= 8:
        return False
    return all(["a" <= letter <= "z" for letter in value])


def is_just(value, told):
    """Whether any value is equal to a told one and of the same kind, also in the parts of tuples."""
    if isinstance(value, tuple) and isinstance(told, tuple):
        return len(value) == len(told) and all([is_just(part, other) for part, other in zip(value, told)])
    return type(value) is type(told) and value == told
