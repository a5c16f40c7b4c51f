"""What standings tell of a line and of a day."""

from editionlines.papers import Paper, kept_value


class LineStand(Paper):
    """A line of a standing: what it has, whether it is open, how its releases stand, its last and its live release."""

    def __init__(self, has, is_open, past, last, live, fresh):
        self.has = kept_value(has)
        self.is_open = kept_value(is_open)
        self.past = kept_value(past)
        self.last = kept_value(last)
        self.live = kept_value(live)
        self.fresh = kept_value(fresh)

    def held(self):
        """The tuple of the values of all attributes."""
        return (self.has, self.is_open, self.past, self.last, self.live, self.fresh)


class DayStand(Paper):
    """A day of a standing: what it was made with, and whether it is shut."""

    def __init__(self, keeps, is_shut):
        self.keeps = kept_value(keeps)
        self.is_shut = kept_value(is_shut)

    def held(self):
        """The tuple of the values of all attributes."""
        return (self.keeps, self.is_shut)
