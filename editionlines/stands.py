"""What standings tell of a line and of a day."""

from editionlines.papers import Paper, kept


class LineStand(Paper):
    """A line of a standing: what it has, whether it is open, how its releases stand, its last and its live release."""

    def __init__(self, has, is_open, past, last, live, fresh):
        self.has = kept(has)
        self.is_open = kept(is_open)
        self.past = kept(past)
        self.last = kept(last)
        self.live = kept(live)
        self.fresh = kept(fresh)

    def held(self):
        """The tuple of the values of all attributes."""
        return (self.has, self.is_open, self.past, self.last, self.live, self.fresh)


class DayStand(Paper):
    """A day of a standing: what it was made with, and whether it is shut."""

    def __init__(self, keeps, is_shut):
        self.keeps = kept(keeps)
        self.is_shut = kept(is_shut)

    def held(self):
        """The tuple of the values of all attributes."""
        return (self.keeps, self.is_shut)
