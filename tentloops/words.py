"""Closed threads, told by the places by which they leave one cloth after another."""

from tentloops.errors import NoThread, Rim
from tentloops.tents import after, before, cloth_of


def crossable(tent, place):
    """Whether a thread can leave by this."""
    return tent.has_place(place) and tent.mate(place) is not None


def follows(tent, ahead, place):
    """Whether a thread that left by the place ahead can leave by this one next."""
    entry = tent.mate(ahead)
    return cloth_of(place) == cloth_of(entry) and place != entry


def plain(tent, word):
    """Whether the list is a plain closed thread of the tent."""
    if not word or not all([crossable(tent, place) for place in word]):
        return False
    return all([follows(tent, ahead, place) for ahead, place in zip(word, turned(word, 1))])


def look_thread(tent, word):
    """Refuse a list that is no plain closed thread."""
    if not plain(tent, word):
        raise NoThread("the list is no plain closed thread of the tent")


def backward(tent, word):
    """The thread's way back."""
    look_thread(tent, word)
    return [tent.mate(place) for place in reversed(word)]


def turned(word, by):
    """The list begun so many places later."""
    if not word:
        return []
    start = by % len(word)
    return word[start:] + word[:start]


def least_turn(word):
    """The least of all turns of the list."""
    best = list(word)
    for by in range(1, len(word)):
        best = min(best, turned(word, by))
    return best


def least(tent, word):
    """The least of all turns of the thread and of its way back."""
    back = backward(tent, word)
    return min(least_turn(word), least_turn(back))


def alike(tent, one, other):
    """Whether the two lists tell one thread, gone either way."""
    return least(tent, one) == least(tent, other)


def times(tent, word):
    """How often the thread goes round."""
    look_thread(tent, word)
    # The least turn that changes nothing always divides the length: it is one round.
    size = 1
    while turned(word, size) != word:
        size += 1
    return len(word) // size


def letter(tent, ahead, place):
    """The turn that a thread takes between two places by which it leaves."""
    return "R" if place == after(tent.mate(ahead)) else "L"


def letters(tent, word):
    """The thread's turns, the first one behind its first crossing."""
    look_thread(tent, word)
    return "".join([letter(tent, ahead, place) for ahead, place in zip(word, turned(word, 1))])


def walked(tent, place, turns):
    """The places by which one leaves on the way from a place by these letters."""
    tent.look_place(place)
    way = [place]
    for turn in turns:
        entry = tent.mate(way[-1])
        if entry is None:
            raise Rim("the way cannot go on behind a rim")
        way.append(after(entry) if turn == "R" else before(entry))
    return way
