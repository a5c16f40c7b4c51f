"""The bases of papers: objects that are equal if all that they keep is equal."""


def is_open_to_change(value):
    """Whether a value is a list or a dict, or a tuple with such in it."""
    if isinstance(value, tuple):
        return any([is_open_to_change(part) for part in value])
    return isinstance(value, (list, dict))


def kept_value(value):
    """The value; of lists and dicts in it copies, so that later changes do not reach what keeps it."""
    if not is_open_to_change(value):
        return value
    if isinstance(value, dict):
        return {key: kept_value(value[key]) for key in value}
    parts = [kept_value(part) for part in value]
    return parts if isinstance(value, list) else tuple(parts)


class Paper:
    """The base of all papers. Each class below tells in held what its objects keep."""

    def __repr__(self):
        told = [repr(part) for part in self.held()]
        return f"{self.__class__.__name__}({', '.join(told)})"

    def __eq__(self, other):
        return type(self) is type(other) and self.held() == other.held()

    def held(self):
        """The tuple of the values of all attributes."""
        return ()


class Denial(Paper):
    """The base of the papers that are false."""

    def __bool__(self):
        return False
