"""Exchanges of free seams, and rows of them."""

from tentloops.errors import Locked, NoWay, Rim
from tentloops.tents import Tent, after, before

CONTRARY_WAYS = {"left": "right", "right": "left"}


def look_way(way):
    """Refuse what is no way of an exchange."""
    if way not in CONTRARY_WAYS:
        raise NoWay("an exchange goes left or right")


def look_free(tent, seam):
    """Refuse a seam that cannot be exchanged."""
    sort = tent.sort_of(seam)
    if sort == "rim":
        raise Rim("a rim cannot be exchanged")
    if sort == "locked":
        raise Locked("a locked seam cannot be exchanged")


def square(tent, seam):
    """The four places (a, b, c, d) around the two cloths of a free seam."""
    look_free(tent, seam)
    lesser, greater = tent.places(seam)
    return (after(lesser), before(lesser), after(greater), before(greater))


def shifts(tent, seam, way):
    """For each place of the square where what is at it goes."""
    look_way(way)
    a, b, c, d = square(tent, seam)
    if way == "left":
        return {a: d, d: c, c: b, b: a}
    return {a: b, b: c, c: d, d: a}


def moved(tent, seam, way, place):
    """Where what is at the place goes by the exchange."""
    goals = shifts(tent, seam, way)
    tent.look_place(place)
    return goals.get(place, place)


def exchanged(tent, seam, way):
    """The tent behind the exchange."""
    goals = shifts(tent, seam, way)
    names = [name for row in tent.rows() for name in row]
    for place, goal in goals.items():
        names[goal] = tent.seam_at(place)
    return Tent([tuple(names[k:k + 3]) for k in range(0, len(names), 3)])


def contrary(way):
    """The other way."""
    look_way(way)
    return CONTRARY_WAYS[way]


def driven(tent, moves):
    """The tent behind a row of exchanges, each done in the tent as it is by then."""
    for seam, way in moves:
        tent = exchanged(tent, seam, way)
    return tent


def undoing(moves):
    """The row of exchanges that leads back."""
    return [(seam, contrary(way)) for seam, way in reversed(moves)]
