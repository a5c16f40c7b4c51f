"""Climbs: rows of ways on which nothing of a lot is lost."""

from editionlines.checks import is_integer
from editionlines.errors import BadLot, BadWay
from editionlines.lots import Lot
from editionlines.numbers import Number
from editionlines.papers import Denial, Paper, kept_value
from editionlines.ways import all_places, live_places, lot_at, refuse_history


class Climb(Paper):
    """The Numbers of the releases of a climb."""

    def __init__(self, numbers):
        self.numbers = kept_value(numbers)

    def held(self):
        """The tuple of the values of all attributes."""
        return (self.numbers,)


class NoClimb(Denial):
    """Numbers of releases, the start among them and the goal not, from which no step leads to another release."""

    def __init__(self, numbers):
        self.numbers = kept_value(numbers)

    def held(self):
        """The tuple of the values of all attributes."""
        return (self.numbers,)


def refuse_way(lot, stride):
    """Raises what is wrong with a lot and a stride."""
    if not isinstance(lot, Lot):
        raise BadLot("lot")
    if not is_integer(stride) or stride < 0:
        raise BadWay(stride)


def refuse_climb(history, start, goal, lot, stride, live):
    """Raises what is wrong with what a climb is asked of."""
    refuse_history(history)
    history.refuse_number(start)
    history.refuse_number(goal)
    refuse_way(lot, stride)
    if not isinstance(live, bool):
        raise BadWay(live)


def told_place(number):
    """The pair (line, number) of a Number."""
    return (number.line, number.at)


class Strides:
    """The steps of climbs in a history, between releases that are told as pairs (line, number)."""

    def __init__(self, history, lot, stride, live):
        self.stride = stride
        goals = live_places(history.ground) if live else all_places(history)
        self.goals = tuple(goals)
        self.lots = {place: lot_at(history, place) & lot for place in all_places(history)}

    def is_step(self, start, goal):
        """Whether a step leads from one release to another one."""
        if goal not in self.goals or not start < goal or goal[0] - start[0] > self.stride:
            return False
        return self.lots[start] <= self.lots[goal]

    def steps_from(self, start):
        """The ascending list of the releases to which a step leads from one."""
        return [goal for goal in self.goals if self.is_step(start, goal)]

    def ahead_of(self, start):
        """A dict from all to which climbs lead from a release to the one ahead on a shortest climb; None for itself."""
        found = {start: None}
        met = [start]
        at = 0
        while at < len(met):
            place = met[at]
            later = [goal for goal in self.steps_from(place) if goal not in found]
            for goal in later:
                found[goal] = place
            met.extend(later)
            at += 1
        return found


def climb(history, start, goal, lot, stride, live=False):
    """The Climb of the fewest steps from one release to another one, otherwise the NoClimb."""
    refuse_climb(history, start, goal, lot, stride, live)
    ahead = Strides(history, lot, stride, live).ahead_of(told_place(start))
    if told_place(goal) not in ahead:
        return NoClimb(tuple([Number(*place) for place in ahead]))
    row = []
    place = told_place(goal)
    while place is not None:
        row.append(Number(*place))
        place = ahead[place]
    return Climb(tuple(row[::-1]))


def stuck(history, lot, stride):
    """The ascending tuple of the Numbers of live releases without a climb to the live one of the newest line."""
    refuse_history(history)
    refuse_way(lot, stride)
    live = live_places(history.ground)
    strides = Strides(history, lot, stride, True)
    return tuple([Number(*place) for place in live if live[-1] not in strides.ahead_of(place)])


def are_numbers(history, value):
    """Whether any value is a tuple of Numbers of releases of a history."""
    if not isinstance(value, tuple) or not all([isinstance(number, Number) for number in value]):
        return False
    places = all_places(history)
    return all([told_place(number) in places for number in value])


def shows_climb(history, start, goal, lot, stride, value, live=False):
    """Whether any value is a right answer to whether there is a climb."""
    refuse_climb(history, start, goal, lot, stride, live)
    if not isinstance(value, (Climb, NoClimb)) or not are_numbers(history, value.numbers):
        return False
    places = [told_place(number) for number in value.numbers]
    strides = Strides(history, lot, stride, live)
    if isinstance(value, Climb):
        if not places or places[0] != told_place(start) or places[-1] != told_place(goal):
            return False
        return all([strides.is_step(one, other) for one, other in zip(places, places[1:])])
    if told_place(start) not in places or told_place(goal) in places:
        return False
    return all([later in places for place in places for later in strides.steps_from(place)])
