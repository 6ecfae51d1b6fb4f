"""Numbers led along rows of exchanges, and the row that makes them less."""

from tentloops.counts import counts_behind, look_counts, look_family, number_behind
from tentloops.exchange import exchanged


def most_easing(tent, counts):
    """The free seam whose exchange makes its number less by most, or None."""
    best = None
    most = 0
    # The names rise, so that of several the least one stays.
    for seam in tent.seams():
        if tent.sort_of(seam) == "free":
            less = counts[seam] - number_behind(tent, counts, seam)
            if less > most:
                best, most = seam, less
    return best


def eased(tent, counts):
    """The row of exchanges that eases the numbers until nothing makes them less."""
    look_family(tent, counts)
    moves = []
    seam = most_easing(tent, counts)
    while seam is not None:
        moves.append((seam, "left"))
        counts = counts_behind(tent, counts, seam)
        tent = exchanged(tent, seam, "left")
        seam = most_easing(tent, counts)
    return moves


def led_along(tent, moves, counts):
    """Numbers behind a row of exchanges, each done in the tent as it is by then."""
    look_counts(tent, counts)
    counts = dict(counts)
    for seam, way in moves:
        # The exchange comes first: it refuses a wrong way ahead of a wrong seam.
        behind = exchanged(tent, seam, way)
        counts = counts_behind(tent, counts, seam)
        tent = behind
    return counts
