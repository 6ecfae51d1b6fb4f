"""Tents: cloths, their places, and the seams between them."""

from tentloops.errors import NoPlace, NoSeam, NoTent

GREATEST_NAME = 9999


def after(place):
    """The place after this one around its cloth."""
    return place - 2 if place % 3 == 2 else place + 1


def before(place):
    """The place before this one around its cloth."""
    return place + 2 if place % 3 == 0 else place - 1


def cloth_of(place):
    """The number of the cloth in which the place lies."""
    return place // 3


def spots_of(names_at):
    """For each seam name its places, rising; refuses names that no tent can have."""
    spots = {}
    for place, name in enumerate(names_at):
        if name < 0 or name > GREATEST_NAME:
            raise NoTent("a seam name is from 0 to 9999")
        spots.setdefault(name, []).append(place)
        if len(spots[name]) > 2:
            raise NoTent("a seam name stands at most twice")
    return spots


def mates_of(spots, count):
    """For each of so many places its mate, or None."""
    mates = [None] * count
    for pair in spots.values():
        if len(pair) == 2:
            mates[pair[0]] = pair[1]
            mates[pair[1]] = pair[0]
    return mates


class Tent:
    """A tent; once made it never changes, so it may be shared freely."""

    def __init__(self, rows):
        if not rows:
            raise NoTent("a tent has at least one cloth")
        self.cloths = [tuple(row) for row in rows]
        self.names_at = [name for row in self.cloths for name in row]
        self.spots = spots_of(self.names_at)
        self.mates = mates_of(self.spots, len(self.names_at))

    def rows(self):
        """The cloths, each a tuple of three seam names."""
        return list(self.cloths)

    def size(self):
        """The count of cloths."""
        return len(self.cloths)

    def seams(self):
        """All seam names, rising."""
        return sorted(self.spots)

    def all_places(self):
        """All places, rising."""
        return list(range(len(self.names_at)))

    def has_place(self, place):
        """Whether the tent has this place."""
        return 0 <= place < len(self.names_at)

    def look_place(self, place):
        """Refuse what is no place of the tent."""
        if not self.has_place(place):
            raise NoPlace("the tent has no such place")

    def seam_at(self, place):
        """The seam name at the place."""
        self.look_place(place)
        return self.names_at[place]

    def places(self, seam):
        """The one or two places of the seam, rising."""
        if seam not in self.spots:
            raise NoSeam("the tent has no such seam")
        return list(self.spots[seam])

    def mate(self, place):
        """The place sewn to this one, or None at a rim."""
        self.look_place(place)
        return self.mates[place]

    def sort_of(self, seam):
        """Whether the seam is a "rim", "locked" or "free"."""
        spots = self.places(seam)
        if len(spots) == 1:
            return "rim"
        if cloth_of(spots[0]) == cloth_of(spots[1]):
            return "locked"
        return "free"
