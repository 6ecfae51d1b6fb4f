"""The document's points told anew, from the rows of a tent alone and by no function of the program."""

import fractions
import itertools

from tentloops.errors import NoCounts, Uneven, Wide


def spots(rows):
    """For each name the places at which it stands, told anew from the rows alone."""
    found = {}
    for number, row in enumerate(rows):
        for at, name in enumerate(row):
            found.setdefault(name, []).append(3 * number + at)
    return found


def mate_of(rows, place):
    """The mate of a place, told anew from the rows alone."""
    for pair in spots(rows).values():
        if place in pair and len(pair) == 2:
            return pair[1 - pair.index(place)]
    return None


def plain_by_words(rows, word):
    """Point 7, told anew from the rows alone."""
    if len(word) == 0:
        return False
    for k in range(len(word)):
        if word[k] < 0 or word[k] >= 3 * len(rows) or mate_of(rows, word[k]) is None:
            return False
        mate, following = mate_of(rows, word[k]), word[(k + 1) % len(word)]
        if following == mate or following not in range(mate - mate % 3, mate - mate % 3 + 3):
            return False
    return True


def all_turns(word):
    """All lists that begin somewhere in this one and go once round."""
    return [word[k:] + word[:k] for k in range(len(word))]


def threads_of(rows, longest):
    """All plain threads up to a length."""
    places = range(3 * len(rows))
    words = [list(w) for n in range(1, longest + 1) for w in itertools.product(places, repeat=n)]
    return [word for word in words if plain_by_words(rows, word)]


def least_by_turns(rows, word):
    """Point 9: the least form."""
    return min(all_turns(word) + all_turns([mate_of(rows, place) for place in word[::-1]]))


def around(place, by):
    """The place so many further around its cloth."""
    return place - place % 3 + (place + by) % 3


def square_by_words(rows, seam):
    """Point 4."""
    p, q = spots(rows)[seam]
    return (around(p, 1), around(p, -1), around(q, 1), around(q, -1))


def free_by_words(rows):
    """Point 3: the free seams, rising."""
    pairs = spots(rows)
    return sorted(name for name in pairs if len({place // 3 for place in pairs[name]}) == 2)


def goals_by_words(rows, seam, way):
    """Point 5: for every place where what is at it goes."""
    a, b, c, d = square_by_words(rows, seam)
    goals = {place: place for place in range(3 * len(rows))}
    circle = [a, d, c, b] if way == "left" else [a, b, c, d]
    for k in range(4):
        goals[circle[k]] = circle[(k + 1) % 4]
    return goals


def behind_by_words(rows, seam, way):
    """Point 5: the rows behind the exchange."""
    names = {}
    for place, goal in goals_by_words(rows, seam, way).items():
        names[goal] = rows[place // 3][place % 3]
    return [tuple(names[3 * k + i] for i in range(3)) for k in range(len(rows))]


def pulled_by_words(rows, seam, way, word):
    """Point 11."""
    goals = goals_by_words(rows, seam, way)
    own = spots(rows)[seam]
    told = []
    kept = [k for k in range(len(word)) if word[k] not in own]
    for at, k in enumerate(kept):
        told.append(goals[word[k]])
        entry = goals[mate_of(rows, word[k])]
        leaving = goals[word[kept[(at + 1) % len(kept)]]]
        if entry // 3 != leaving // 3:
            told += [place for place in own if place // 3 == entry // 3]
    return told


def tally_by_words(rows, word):
    """Point 13."""
    return {name: sum(word.count(place) for place in spots(rows)[name]) for name in spots(rows)}


def refusal_by_words(rows, counts):
    """Point 13: the class of the refusal, or None."""
    pairs = spots(rows)
    if set(counts) != set(pairs) or any(n < 0 or n > 0 and len(pairs[s]) == 1 for s, n in counts.items()):
        return NoCounts
    triples = [[counts[name] for name in row] for row in rows]
    if any((x + y + z) % 2 for x, y, z in triples):
        return Uneven
    if any(x > y + z or y > x + z or z > x + y for x, y, z in triples):
        return Wide
    return None


def number_by_words(rows, counts, seam):
    """Point 14: the number of the exchanged seam behind the exchange."""
    a, b, c, d = [counts[rows[place // 3][place % 3]] for place in square_by_words(rows, seam)]
    return max(a + c, b + d) - counts[seam]


def family_by_arcs(rows, counts):
    """Point 15, told by the corners: around each corner of a cloth lie so many ties, the innermost first."""
    many = [counts[rows[place // 3][place % 3]] for place in range(3 * len(rows))]
    ties = {}
    for corner in range(3 * len(rows)):
        after, before = around(corner, 1), around(corner, -1)
        for k in range((many[corner] + many[after] - many[before]) // 2):
            ends = ((corner, many[corner] - 1 - k), (after, k))
            ties[ends[0]], ties[ends[1]] = ends[1], ends[0]
    family = []
    left = set(ties)
    while left:
        here = max(left)
        word = []
        while here in left:
            place, spot = here
            there = (mate_of(rows, place), many[place] - 1 - spot)
            left -= {here, there}
            word.append(place)
            here = ties[there]
        family.append(least_by_turns(rows, word))
    return sorted(family)


def eased_by_words(rows, counts):
    """Point 16."""
    moves = []
    while True:
        gains = [(counts[s] - number_by_words(rows, counts, s), -s) for s in free_by_words(rows)]
        gain, name = max(gains, default=(0, 0))
        if gain <= 0:
            return moves
        moves.append((-name, "left"))
        counts = {**counts, -name: number_by_words(rows, counts, -name)}
        rows = behind_by_words(rows, -name, "left")


def following_by_words(rows, corner):
    """Point 17: the corner that follows."""
    return mate_of(rows, around(corner, 1))


def sewn_by_words(rows):
    """Point 3: the sewn seams, rising."""
    return sorted(name for name, places in spots(rows).items() if len(places) == 2)


def as_fractions(worths):
    """Pairs as fractions of Python's own."""
    return {name: fractions.Fraction(*pair) for name, pair in worths.items()}


def as_pairs(worths):
    """Fractions of Python's own as pairs in lowest terms."""
    return {name: (one.numerator, one.denominator) for name, one in worths.items()}


def stretched_by_words(rows, worths, seam):
    """Point 21, with fractions of Python's own."""
    told = as_fractions(worths)
    z = told[seam]
    for place, factor in zip(square_by_words(rows, seam), (1 + z, z / (1 + z), 1 + z, z / (1 + z))):
        name = rows[place // 3][place % 3]
        if len(spots(rows)[name]) == 2:
            told[name] *= factor
    told[seam] = 1 / z
    return as_pairs(told)


def worth_by_words(rows, worths, word):
    """Point 22, with the whole table and its determinant."""
    table = [[1, 0], [0, 1]]
    for k, place in enumerate(word):
        t, u = worths[rows[place // 3][place % 3]]
        for row in table:
            row[0], row[1] = row[0] * t, row[1] * u
        entry, following = mate_of(rows, place), word[(k + 1) % len(word)]
        for row in table:
            if following == around(entry, 1):
                row[0] += row[1]
            else:
                row[1] += row[0]
    (a, b), (c, d) = table
    told = fractions.Fraction((a + d) ** 2, a * d - b * c)
    return (told.numerator, told.denominator)


def lies_well(one, other, goals):
    """Point 23: whether the list lays the one tent on the other."""
    places = range(3 * len(one))
    if sorted(goals) != list(range(3 * len(other))) or len(goals) != len(places):
        return False
    for place in places:
        mate, goal_mate = mate_of(one, place), mate_of(other, goals[place])
        if goals[around(place, 1)] != around(goals[place], 1) or (mate is None) != (goal_mate is None):
            return False
        if mate is not None and goals[mate] != goal_mate:
            return False
    return True


def matched_by_trying(one, other):
    """Point 23: the first list that lays well, of all that place cloth behind cloth in each way."""
    if len(one) != len(other):
        return None
    mates = [mate_of(one, place) for place in range(3 * len(one))]
    goal_mates = [mate_of(other, place) for place in range(3 * len(other))]

    def fits(goals):
        for place, goal in enumerate(goals):
            if (mates[place] is None) != (goal_mates[goal] is None):
                return False
            if mates[place] is not None and mates[place] < len(goals) and goals[mates[place]] != goal_mates[goal]:
                return False
        return True

    def go_on(goals):
        if len(goals) == len(mates):
            return goals
        for goal in range(len(mates)):
            longer = goals + [goal, around(goal, 1), around(goal, 2)]
            if goal not in goals and fits(longer):
                told = go_on(longer)
                if told is not None:
                    return told
        return None

    return go_on([])
