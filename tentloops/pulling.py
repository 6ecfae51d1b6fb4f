"""Threads behind exchanges of seams."""

from tentloops.exchange import exchanged, shifts
from tentloops.tents import cloth_of
from tentloops.words import look_thread, turned


def crossing_between(own, entry, leaving):
    """The place of the exchanged seam, if one is needed, between coming in and leaving."""
    if cloth_of(entry) == cloth_of(leaving):
        return []
    return [place for place in own if cloth_of(place) == cloth_of(entry)]


def pulled(tent, seam, way, word):
    """The thread behind the exchange."""
    goals = shifts(tent, seam, way)
    look_thread(tent, word)
    own = tent.places(seam)
    # Never empty: no thread crosses a free seam twice without another crossing between.
    kept = [place for place in word if place not in own]
    told = []
    for ahead, following in zip(kept, turned(kept, 1)):
        entry = tent.mate(ahead)
        told.append(goals.get(ahead, ahead))
        told.extend(crossing_between(own, goals.get(entry, entry), goals.get(following, following)))
    return told


def pulled_along(tent, moves, word):
    """The thread behind a row of exchanges, each done in the tent as it is by then."""
    look_thread(tent, word)
    word = list(word)
    for seam, way in moves:
        word = pulled(tent, seam, way, word)
        tent = exchanged(tent, seam, way)
    return word
