"""Tents, threads and numbers that several tests use."""

from oracles import behind_by_words, free_by_words, mate_of, spots

# Two cloths, three free seams, one point: every place has a mate.
TORUS = [(0, 1, 2), (0, 1, 2)]

# Seam 0 is free (places 0 and 4), all others are rims and have unlike names.
KITE = [(0, 1, 2), (3, 0, 4)]

# One cloth: seam 5 is locked (places 0 and 1), seam 7 is a rim (place 2).
CONE = [(5, 5, 7)]

# Seam 2 is free (places 2 and 3); seams 1 and 4 are locked, each in its cloth.
BALL = [(1, 1, 2), (2, 4, 4)]

# Three cloths: seam 6 is free (0 and 5), 8 is free (4 and 6), 9 is locked, 1, 2 and 3 are rims.
MIXED = [(6, 1, 2), (3, 8, 6), (8, 9, 9)]

# One cloth without any sewn seam.
FLAP = [(3, 1, 2)]

# An eight-cornered cloth cut into six: one point, two handles, no rim.
PRETZEL = [(0, 1, 4), (4, 0, 5), (5, 1, 6), (6, 2, 7), (7, 3, 8), (8, 2, 3)]

# A five-cornered cloth cut into three: one handle, and seam 9 is the only rim (place 8).
POUCH = [(0, 1, 4), (4, 0, 5), (5, 1, 9)]

# Three pieces: cloths 0 and 2 like TORUS, cloth 1 a flap, cloth 3 a cone.
HEAP = [(0, 1, 2), (20, 21, 22), (0, 1, 2), (30, 30, 31)]

WAYS = ("left", "right")

ALL = [TORUS, KITE, CONE, BALL, MIXED, FLAP, PRETZEL, POUCH, HEAP]


def dealer(seed):
    """A plain number sequence: each call tells one from 0 to below the given number."""
    state = seed

    def deal(below):
        nonlocal state
        state = (state * 1103515245 + 12345) & 0x7FFFFFFF
        return (state >> 8) % below

    return deal


def band(count):
    """So many cloths in a round: cloth k is sewn to the next by seam k, and has one rim 5000 + k."""
    return [((k - 1) % count, k, 5000 + k) for k in range(count)]


def scattered(seed, count):
    """A tent of so many cloths whose seams lie as a plain number sequence deals them."""
    deal = dealer(seed)
    names = [k // 2 for k in range(3 * count)]
    for k in range(len(names) - 1, 0, -1):
        other = deal(k + 1)
        names[k], names[other] = names[other], names[k]
    # Every fifth seam is cut open into two rims.
    seen = set()
    for place, name in enumerate(names):
        if name % 5 == seed % 5:
            if name in seen:
                names[place] = 9000 + name
            seen.add(name)
    return [tuple(names[k:k + 3]) for k in range(0, len(names), 3)]


def many_tents():
    """Small tents of all sorts, and some of forty cloths."""
    tents = list(ALL) + [band(2), band(5), band(40)]
    tents += [scattered(seed, 1 + seed % 9) for seed in range(1, 60)]
    tents += [scattered(seed, 40) for seed in range(60, 64)]
    return tents


def free_seams(tent):
    """The names of all seams that can be exchanged."""
    return [seam for seam in tent.seams() if tent.sort_of(seam) == "free"]


def wandered(rows, seed, steps=120):
    """Closed threads: what lies between two crossings of one place on a walk that a sequence deals."""
    deal = dealer(seed)
    mates = [mate_of(rows, place) for place in range(3 * len(rows))]
    starts = [place for place, mate in enumerate(mates) if mate is not None]
    if not starts:
        return []
    way = [starts[deal(len(starts))]]
    while len(way) < steps:
        entry = mates[way[-1]]
        ways_on = [p for p in starts if p // 3 == entry // 3 and p != entry]
        if not ways_on:
            break
        way.append(ways_on[deal(len(ways_on))])
    ends = [(way.index(way[k]), k) for k in range(len(way)) if way.index(way[k]) < k]
    return [way[first:last] for first, last in ends[:6] + ends[-2:]]


def dealt_moves(rows, seed, many):
    """A row of exchanges that can be done one by one."""
    deal = dealer(seed)
    moves = []
    while len(moves) < many and free_by_words(rows):
        names = free_by_words(rows)
        moves.append((names[deal(len(names))], WAYS[deal(2)]))
        rows = behind_by_words(rows, *moves[-1])
    return moves


def noughts(rows):
    """Numbers all nought."""
    return {name: 0 for name in spots(rows)}


def dealt_counts(rows, seed, many=3):
    """Numbers that are not refused: the crossings of some threads together, whether these cross or not."""
    counts = noughts(rows)
    for word in wandered(rows, seed, 60)[:many]:
        for place in word:
            counts[rows[place // 3][place % 3]] += 1
    return counts


def laid_otherwise(rows, seed):
    """The same tent with its cloths in another order, each turned, and its seams under other names."""
    deal = dealer(seed)
    order = list(range(len(rows)))
    for k in range(len(order) - 1, 0, -1):
        other = deal(k + 1)
        order[k], order[other] = order[other], order[k]
    names = sorted(spots(rows))
    others = {name: 7 + 3 * ((k * 37 + seed) % 1009) for k, name in enumerate(names)}
    told = []
    for number in order:
        by = deal(3)
        row = [others[name] for name in rows[number]]
        told.append(tuple(row[by:] + row[:by]))
    return told


def dealt_worths(rows, seed, below=40):
    """Fractions of a tent, some of them not in their lowest terms."""
    deal = dealer(seed)
    names = [name for name, places in spots(rows).items() if len(places) == 2]
    return {name: (deal(below) + 1, deal(below) + 1) for name in names}
