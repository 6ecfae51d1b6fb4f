"""Tents laid on one another."""

from tentloops.errors import NotAlike
from tentloops.tents import after


def step_pairs(one, other, place, spot):
    """The steps from a place, to the one after it and to its mate, with those from the place on which it lies."""
    steps = [(after(place), after(spot)), (one.mate(place), other.mate(spot))]
    # Two places that both have no mate fit, and lead no further.
    return [step for step in steps if step != (None, None)]


def piece_laid(one, other, start, goal):
    """Where all places of a piece lie if its place `start` lies on the goal, or None."""
    goals = {start: goal}
    waiting = [start]
    while waiting:
        here = waiting.pop()
        steps = step_pairs(one, other, here, goals[here])
        for place, spot in steps:
            if place is None or spot is None or goals.get(place, spot) != spot:
                return None
            if place not in goals:
                goals[place] = spot
                waiting.append(place)
    # A piece could also be wound several times round a lesser one: then some goal is met again.
    if len({spot for spot in goals.values()}) < len(goals):
        return None
    return goals


def first_laid(one, other, start, spare):
    """The laying of a piece by which its place `start` lies on the first of the spare places that fits, or None."""
    for goal in spare:
        goals = piece_laid(one, other, start, goal)
        if goals is not None:
            return goals
    return None


def matched(one, other):
    """The least list by which the one tent is laid on the other, or None."""
    if one.size() != other.size():
        return None
    laid = {}
    spare = other.all_places()
    # Each piece takes the least goal for its own first place. That never bars a later piece:
    # pieces that can lie on the same one are alike, so that whichever is left fits as well.
    for start in one.all_places():
        if start not in laid:
            goals = first_laid(one, other, start, spare)
            if goals is None:
                return None
            laid.update(goals)
            spots = list(goals.values())
            spare = [place for place in spare if place not in spots]
    return [laid[place] for place in one.all_places()]


def carried(one, other, word):
    """The places on which a row of places of the one tent lies."""
    goals = matched(one, other)
    if goals is None:
        raise NotAlike("the one tent cannot be laid on the other")
    for place in word:
        one.look_place(place)
    return [goals[place] for place in word]
