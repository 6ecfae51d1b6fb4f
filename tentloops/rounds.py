"""What a tent is like: its points, its rims, its pieces and its shape."""

from tentloops.errors import Rim
from tentloops.tents import after, cloth_of


def corners_from(tent, corner):
    """The corners around a point from this one on, to the last at a rim or else once round."""
    corners = [corner]
    following = tent.mate(after(corner))
    while following is not None and following != corner:
        corners.append(following)
        following = tent.mate(after(following))
    return corners


def rim_places(tent):
    """All places without a mate, rising."""
    return [place for place in tent.all_places() if tent.mate(place) is None]


def each_once(tent, numbers, group_from):
    """The groups in which these numbers lie, each told once, from the first of its numbers on."""
    seen = set()
    groups = []
    for number in numbers:
        if number not in seen:
            groups.append(group_from(tent, number))
            for other in groups[-1]:
                seen.add(other)
    return groups


def points(tent):
    """All points, each as whether it lies within and its corners, rising by the least corner."""
    # A corner follows none just where its own place has no mate.
    at_rims = [corners_from(tent, corner) for corner in rim_places(tent)]
    taken = {corner for corners in at_rims for corner in corners}
    others = [corner for corner in tent.all_places() if corner not in taken]
    found = [(False, corners) for corners in at_rims]
    found += [(True, corners) for corners in each_once(tent, others, corners_from)]
    return sorted(found, key=lambda pair: min(pair[1]))


def about(tent, corner):
    """The thread about a point within, begun at one of its corners."""
    tent.look_place(corner)
    thread = [after(each) for each in corners_from(tent, corner)]
    if tent.mate(thread[-1]) is None:
        raise Rim("the corner is one of a point at a rim")
    return thread


def rim_behind(tent, place):
    """The rim place that comes behind this one around its rim."""
    return after(corners_from(tent, place)[-1])


def rim_from(tent, place):
    """The round of rim places from this one on."""
    told = [place]
    following = rim_behind(tent, place)
    while following != place:
        told.append(following)
        following = rim_behind(tent, following)
    return told


def rims(tent):
    """The rounds of rim places, each from its least place on, rising."""
    return each_once(tent, rim_places(tent), rim_from)


def cloths_beside(tent, cloth):
    """The cloths that are sewn to this one."""
    mates = [tent.mate(place) for place in range(3 * cloth, 3 * cloth + 3)]
    return [cloth_of(mate) for mate in mates if mate is not None]


def piece_of(tent, cloth):
    """All cloths that hang together with this one, rising."""
    reached = {cloth}
    waiting = [cloth]
    while waiting:
        here = waiting.pop()
        for other in cloths_beside(tent, here):
            if other not in reached:
                reached.add(other)
                waiting.append(other)
    return sorted(reached)


def pieces(tent):
    """The pieces, each the rising list of its cloths, rising by their first."""
    return each_once(tent, list(range(tent.size())), piece_of)


def shape_of(tent, piece):
    """A piece's cloths, its points within, its rounds of rims and its handles."""
    own_points = [within for within, corners in points(tent) if cloth_of(corners[0]) in piece]
    own_rims = [places for places in rims(tent) if cloth_of(places[0]) in piece]
    seams = len({tent.seam_at(place) for place in tent.all_places() if cloth_of(place) in piece})
    handles = (2 - len(own_rims) - len(own_points) + seams - len(piece)) // 2
    return (len(piece), own_points.count(True), len(own_rims), handles)


def shape(tent):
    """For each piece what it is like."""
    return [shape_of(tent, piece) for piece in pieces(tent)]
