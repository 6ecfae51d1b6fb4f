"""Tents that several tests use, with what is known of them by hand."""

# Two cloths, three free seams, one point: every place has a mate.
TORUS = [(0, 1, 2), (0, 1, 2)]

# Seam 0 is free (places 0 and 4), all others are rims and have unlike names.
KITE = [(0, 1, 2), (3, 0, 4)]

# One cloth: seam 5 is locked (places 0 and 1), seam 7 is a rim (place 2).
CONE = [(5, 5, 7)]

# Seam 2 is free (places 2 and 3); seams 1 and 4 are locked, each in its cloth.
BALL = [(1, 1, 2), (2, 4, 4)]

# Three cloths: seam 6 is free (0 and 5), 8 is free (4 and 6), 9 is locked, 1, 2 and 3 are rims.
MIXED = [(6, 1, 2), (3, 8, 6), (8, 9, 9)]

ALL = [TORUS, KITE, CONE, BALL, MIXED]


def band(count):
    """So many cloths in a round: cloth k is sewn to the next by seam k, and has one rim 5000 + k."""
    return [((k - 1) % count, k, 5000 + k) for k in range(count)]


def scattered(seed, count):
    """A tent of so many cloths whose seams lie as a plain number sequence deals them."""
    state = seed
    names = [k // 2 for k in range(3 * count)]
    for k in range(len(names) - 1, 0, -1):
        state = (state * 1103515245 + 12345) & 0x7FFFFFFF
        other = (state >> 8) % (k + 1)
        names[k], names[other] = names[other], names[k]
    # Every fifth seam is cut open into two rims.
    seen = set()
    for place, name in enumerate(names):
        if name % 5 == seed % 5:
            if name in seen:
                names[place] = 9000 + name
            seen.add(name)
    return [tuple(names[k:k + 3]) for k in range(0, len(names), 3)]


def many_tents():
    """Small tents of all sorts, and some of forty cloths."""
    tents = list(ALL) + [band(2), band(5), band(40)]
    tents += [scattered(seed, 1 + seed % 9) for seed in range(1, 60)]
    tents += [scattered(seed, 40) for seed in range(60, 64)]
    return tents


def spots(rows):
    """For each name the places at which it stands, told anew from the rows alone."""
    found = {}
    for number, row in enumerate(rows):
        for at, name in enumerate(row):
            found.setdefault(name, []).append(3 * number + at)
    return found


def mate_of(rows, place):
    """The mate of a place, told anew from the rows alone."""
    for pair in spots(rows).values():
        if place in pair and len(pair) == 2:
            return pair[1 - pair.index(place)]
    return None
