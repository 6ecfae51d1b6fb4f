"""Fractions of the sewn seams of a tent, and the worth that they give to a thread."""

from tentloops.errors import NoFraction, NoWorths
from tentloops.exchange import look_free, square
from tentloops.words import letters


def common_measure(one, other):
    """The greatest number that divides both."""
    while other:
        one, other = other, one % other
    return one


def look_fraction(top, bottom):
    """Refuse what is no fraction."""
    if top < 1 or bottom < 1:
        raise NoFraction("a part of the fraction is below 1")


def fraction(top, bottom):
    """The fraction in its lowest terms."""
    look_fraction(top, bottom)
    measure = common_measure(top, bottom)
    return (top // measure, bottom // measure)


def sewn_seams(tent):
    """The names of all seams that are no rims, rising."""
    return [seam for seam in tent.seams() if tent.sort_of(seam) != "rim"]


def even_worths(tent):
    """The fraction 1 for each sewn seam."""
    return {seam: (1, 1) for seam in sewn_seams(tent)}


def lowest_worths(tent, worths):
    """The fractions in their lowest terms; refuses what are no fractions of the tent."""
    if sorted(worths) != sewn_seams(tent):
        raise NoWorths("there is one fraction for each sewn seam and no other")
    return {seam: fraction(top, bottom) for seam, (top, bottom) in worths.items()}


def product(one, other):
    """Two fractions multiplied."""
    return fraction(one[0] * other[0], one[1] * other[1])


def stretched(tent, worths, seam):
    """Fractions behind the exchange of a free seam."""
    look_free(tent, seam)
    behind = lowest_worths(tent, worths)
    top, bottom = behind[seam]
    more = (top + bottom, bottom)
    less = (top, top + bottom)
    # One place after another, so that a seam is multiplied once for each of its places.
    for place, factor in zip(square(tent, seam), [more, less, more, less]):
        name = tent.seam_at(place)
        if name in behind:
            behind[name] = product(behind[name], factor)
    behind[seam] = (bottom, top)
    return behind


def diagonal_sum(crossed, turns):
    """Upper left and lower right together of the table that these crossings and turns make."""
    upper_left, upper_right, lower_left, lower_right = 1, 0, 0, 1
    for (top, bottom), turn in zip(crossed, turns):
        upper_left, lower_left = upper_left * top, lower_left * top
        upper_right, lower_right = upper_right * bottom, lower_right * bottom
        if turn == "L":
            upper_right, lower_right = upper_right + upper_left, lower_right + lower_left
        else:
            upper_left, lower_left = upper_left + upper_right, lower_left + lower_right
    return upper_left + lower_right


def lowest_over(top, factors):
    """The fraction with this top over all the factors multiplied, in its lowest terms."""
    bottom = 1
    # One factor after another: no two great numbers have to be measured by one another.
    for factor in factors:
        measure = common_measure(top, factor)
        top //= measure
        bottom *= factor // measure
    return (top, bottom)


def worth(tent, worths, word):
    """The worth of the thread, which no exchange changes."""
    turns = letters(tent, word)
    lowest = lowest_worths(tent, worths)
    crossed = [lowest[tent.seam_at(place)] for place in word]
    # The document's bottom is the table's determinant: a turn keeps it, a crossing multiplies it by both parts.
    factors = [part for parts in crossed for part in parts]
    return lowest_over(diagonal_sum(crossed, turns) ** 2, factors)
