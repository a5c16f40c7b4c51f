"""The bases of papers: objects that are equal if all that they keep is equal."""


def kept(value):
    """The value; of lists and dicts in it copies, so that later changes do not reach what keeps it."""
    if not isinstance(value, (list, tuple, dict)):
        return value
    if isinstance(value, dict):
        return {key: kept(value[key]) for key in value}
    parts = [kept(part) for part in value]
    return parts if isinstance(value, list) else tuple(parts)


class Paper:
    """The base of all papers. Each class below tells in held what its objects keep."""

    def __eq__(self, other):
        return type(self) is type(other) and self.held() == other.held()

    def held(self):
        """The tuple of the values of all attributes."""
        return ()


class Denial(Paper):
    """The base of the papers that are false."""

    def __bool__(self):
        return False
