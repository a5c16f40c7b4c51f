"""Whether what is told of a rollout is right, looked at without a search."""

from editionlines.rollouts import STAND_WORDS, Rolling, Rollout, Stuck


def stand_behind(rolling, stand, deed):
    """The stand to which any value leads as a step from a stand, None if it is no step from it."""
    for told, behind in rolling.steps_at(stand):
        if told == deed:
            return behind
    return None


def leads_to_goal(rolling, deeds):
    """Whether any value is a tuple of deeds that lead by steps from the first stand to the goal."""
    if not isinstance(deeds, tuple):
        return False
    stand = rolling.first
    for deed in deeds:
        stand = stand_behind(rolling, stand, deed)
        if stand is None:
            return False
    return stand == rolling.goal


def is_stand(rolling, value):
    """Whether any value is a tuple of a word for each mover."""
    if not isinstance(value, tuple) or len(value) != len(rolling.movers):
        return False
    return all([word in STAND_WORDS for word in value])


def is_stuck(rolling, stands):
    """Whether any value is an ascending tuple of stands, the first one and not the goal, that no step leaves."""
    if not isinstance(stands, tuple) or not all([is_stand(rolling, stand) for stand in stands]):
        return False
    if not all([one < other for one, other in zip(stands, stands[1:])]):
        return False
    if rolling.first not in stands or rolling.goal in stands:
        return False
    among = {stand: True for stand in stands}
    return all([behind in among for stand in stands for _, behind in rolling.steps_at(stand)])


def shows_rollout(history, value, *kept):
    """Whether any value is a Rollout that leads to the goal, or a Stuck that is right."""
    rolling = Rolling(history, kept)
    if isinstance(value, Rollout):
        return leads_to_goal(rolling, value.deeds)
    return isinstance(value, Stuck) and is_stuck(rolling, value.stands)
