"""Numbers of a tent: how often its seams are crossed, and the threads that such numbers tell."""

from tentloops.errors import NoCounts, TooMany, Uneven, Wide
from tentloops.exchange import look_free, square
from tentloops.tents import after, before
from tentloops.words import least, look_thread

MOST_CROSSINGS = 600


def tally(tent, word):
    """For each seam how often the thread crosses it."""
    look_thread(tent, word)
    crossed = {seam: 0 for seam in tent.seams()}
    for place in word:
        crossed[tent.seam_at(place)] += 1
    return crossed


def flow(tent, word):
    """For each place how often the thread leaves by it less how often it comes in by it."""
    look_thread(tent, word)
    surplus = [0 for place in tent.all_places()]
    for place in word:
        surplus[place] += 1
        surplus[tent.mate(place)] -= 1
    return surplus


def look_numbers(tent, counts):
    """Refuse wrong names, and numbers that a seam by itself cannot have."""
    if sorted(counts) != tent.seams():
        raise NoCounts("there is one number for each seam of the tent and no other")
    for seam, number in counts.items():
        if number < 0:
            raise NoCounts("a number is below nought")
        if number > 0 and tent.sort_of(seam) == "rim":
            raise NoCounts("the number of a rim is nought")


def look_counts(tent, counts):
    """Refuse numbers that tell no family of threads."""
    look_numbers(tent, counts)
    triples = [[counts[seam] for seam in row] for row in tent.rows()]
    if any([sum(triple) % 2 == 1 for triple in triples]):
        raise Uneven("the numbers of a cloth have an odd sum")
    if any([2 * max(triple) > sum(triple) for triple in triples]):
        raise Wide("a number is above the two others of its cloth together")


def number_behind(tent, counts, seam):
    """The number of a free seam behind its exchange."""
    a, b, c, d = [counts[tent.seam_at(place)] for place in square(tent, seam)]
    return max(a + c, b + d) - counts[seam]


def counts_behind(tent, counts, seam):
    """Numbers behind the exchange of a free seam; they have been looked at."""
    behind = dict(counts)
    behind[seam] = number_behind(tent, counts, seam)
    return behind


def led(tent, counts, seam):
    """Numbers behind the exchange of a free seam."""
    look_free(tent, seam)
    look_counts(tent, counts)
    return counts_behind(tent, counts, seam)


def look_family(tent, counts):
    """Refuse numbers that tell no family, and those of a family that is too great to be followed."""
    look_counts(tent, counts)
    if sum(counts.values()) > MOST_CROSSINGS:
        raise TooMany("the numbers have a sum above 600")


def across_seam(tent, numbers, at):
    """The same point, told at the mate of its place."""
    place, spot = at
    return (tent.mate(place), numbers[place] - 1 - spot)


def across_cloth(numbers, at):
    """The place and the point there to which this point is tied within its cloth."""
    place, spot = at
    own, prior = numbers[place], numbers[before(place)]
    tied_back = (prior + own - numbers[after(place)]) // 2
    if spot < tied_back:
        return (before(place), prior - 1 - spot)
    return (after(place), own - 1 - spot)


def gone_round(tent, numbers, start):
    """All points, with their places, by which the thread leaves that first leaves by this one."""
    way = [start]
    at = across_cloth(numbers, across_seam(tent, numbers, start))
    while at != start:
        way.append(at)
        at = across_cloth(numbers, across_seam(tent, numbers, at))
    return way


def traced(tent, counts):
    """The family of threads that the numbers tell, in least forms, rising."""
    look_family(tent, counts)
    numbers = [counts[tent.seam_at(place)] for place in tent.all_places()]
    seen = set()
    family = []
    for start in [(place, spot) for place in tent.all_places() for spot in range(numbers[place])]:
        if start not in seen:
            way = gone_round(tent, numbers, start)
            family.append(least(tent, [place for place, spot in way]))
            for at in way:
                seen.add(at)
                # So the same thread is not told again for its way back.
                seen.add(across_seam(tent, numbers, at))
    return sorted(family)
