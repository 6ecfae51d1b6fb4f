"""Points 24 to 27 told anew: a hall that keeps only its deeds and does them all over for each question."""

from fractions import Fraction

from tentloops import errors
from tentloops.hall import Hall
from oracles import (
    behind_by_words, free_by_words, least_by_turns, number_by_words, plain_by_words, pulled_by_words,
    refusal_by_words, sewn_by_words, spots, stretched_by_words, tally_by_words, worth_by_words,
)
from samples import TORUS, WAYS, dealt_counts, wandered

LIMIT = 10 ** 60


def name_refusal(state, name):
    """Point 24: a name's form, and whether it stands."""
    if not (name.isascii() and name.isalpha() and name.islower() and len(name) <= 8):
        return errors.BadName
    if name in state["threads"] or name in state["pools"]:
        return errors.Taken
    return None


def turn_refusal(rows, seam, way):
    """Point 5."""
    if way not in WAYS:
        return errors.NoWay
    if seam not in spots(rows):
        return errors.NoSeam
    if seam not in sewn_by_words(rows):
        return errors.Rim
    return None if seam in free_by_words(rows) else errors.Locked


def turned_state(state, seam, way):
    """What lies there behind the exchange."""
    rows = state["rows"]
    return {
        "rows": behind_by_words(rows, seam, way),
        "threads": {name: pulled_by_words(rows, seam, way, word) for name, word in state["threads"].items()},
        "pools": {name: {**counts, seam: number_by_words(rows, counts, seam)}
                  for name, counts in state["pools"].items()},
        "worths": stretched_by_words(rows, state["worths"], seam),
    }


def lowest(top, bottom):
    """A fraction in its lowest terms, found by Python's own."""
    told = Fraction(top, bottom)
    return (told.numerator, told.denominator)


def tried(state, deed):
    """Point 25: the class of the refusal and None, or None and the state behind the deed."""
    verb, *parts = deed
    rows = state["rows"]
    if verb == "lay":
        name, word = parts
        why = name_refusal(state, name)
        if why is None and not plain_by_words(rows, word):
            why = errors.NoThread
        if why is None and len(word) > 400:
            why = errors.TooMany
        return (why, {**state, "threads": {**state["threads"], name: word}})
    if verb == "pour":
        name, counts = parts
        why = name_refusal(state, name) or refusal_by_words(rows, counts)
        return (why, {**state, "pools": {**state["pools"], name: counts}})
    if verb == "lift":
        name = parts[0]
        known = name in state["threads"] or name in state["pools"]
        return (None if known else errors.Unknown, {
            **state,
            "threads": {key: word for key, word in state["threads"].items() if key != name},
            "pools": {key: counts for key, counts in state["pools"].items() if key != name},
        })
    if verb == "weigh":
        seam, top, bottom = parts
        if seam not in spots(rows):
            return (errors.NoSeam, None)
        if seam not in sewn_by_words(rows):
            return (errors.Rim, None)
        if top < 1 or bottom < 1:
            return (errors.NoFraction, None)
        pair = lowest(top, bottom)
        return (errors.TooGreat if max(pair) > LIMIT else None, {**state, "worths": {**state["worths"], seam: pair}})
    why = turn_refusal(rows, *parts)
    if why is not None:
        return (why, None)
    behind = turned_state(state, *parts)
    if any(len(word) > 400 for word in behind["threads"].values()):
        return (errors.TooMany, None)
    if any(max(pair) > LIMIT for pair in behind["worths"].values()):
        return (errors.TooGreat, None)
    return (None, behind)


def text_of(deed):
    """Point 28."""
    verb, *parts = deed
    if verb == "lay":
        return " ".join(["lay", parts[0]] + [f"{place}" for place in parts[1]])
    if verb == "pour":
        return " ".join(["pour", parts[0]] + [f"{seam}:{number}" for seam, number in sorted(parts[1].items())])
    if verb == "weigh":
        return "weigh {} {}/{}".format(parts[0], *lowest(*parts[1:]))
    return " ".join(f"{word}" for word in deed)


class ModelHall:

    def __init__(self, rows):
        self.first = list(rows)
        self.done = []
        self.undone = []

    def state(self):
        told = {"rows": self.first, "threads": {}, "pools": {}}
        told["worths"] = {name: (1, 1) for name in sewn_by_words(self.first)}
        for deed in self.done:
            told = tried(told, deed)[1]
        return told

    def refusal(self, deed):
        """The class of the refusal, or None, and then the deed stands."""
        if deed == ("back",) or deed == ("again",):
            here, there = (self.done, self.undone) if deed == ("back",) else (self.undone, self.done)
            if not here:
                return errors.NoDeed
            there.append(here.pop())
            return None
        why = tried(self.state(), deed)[0]
        if why is None:
            self.done.append(deed)
            self.undone = []
        return why

    def answers(self):
        """All that a hall tells, told from the deeds alone."""
        now = self.state()
        rows, threads, pools = now["rows"], now["threads"], now["pools"]
        shares = [tally_by_words(rows, word) for word in threads.values()] + list(pools.values())
        return {
            "deeds": [text_of(deed) for deed in self.done],
            "first_rows": self.first,
            "tent_rows": rows,
            "names": sorted(threads),
            "families": sorted(pools),
            "threads": threads,
            "pools": pools,
            "numbers": {seam: sum(share[seam] for share in shares) for seam in spots(rows)},
            "fractions": now["worths"],
            "worths": {name: worth_by_words(rows, now["worths"], word) for name, word in threads.items()},
            "same": {(one, other): least_by_turns(rows, threads[one]) == least_by_turns(rows, threads[other])
                     for one in threads for other in threads},
        }


def answers_of(hall):
    """The same, asked of a hall."""
    names, families = hall.names(), hall.families()
    return {
        "deeds": hall.deeds(),
        "first_rows": hall.first_rows(),
        "tent_rows": hall.tent_rows(),
        "names": names,
        "families": families,
        "threads": {name: hall.thread(name) for name in names},
        "pools": {name: hall.pool(name) for name in families},
        "numbers": hall.numbers(),
        "fractions": hall.fractions(),
        "worths": {name: hall.worth_of(name) for name in names},
        "same": {(one, other): hall.same(one, other) for one in names for other in names},
    }


def done_in(hall, deed):
    """Do a deed of the model in a hall."""
    return getattr(hall, deed[0])(*deed[1:])


def small_hall():
    """A torus with a thread, a family and a fraction."""
    hall = Hall(TORUS)
    hall.lay("a", [0, 4])
    hall.pour("pool", {0: 1, 1: 2, 2: 3})
    hall.weigh(1, 4, 6)
    return hall


def dealt_deed(deal, model):
    """A deed as a plain number sequence deals it: often one that can be done, often one that is refused."""
    now = model.state()
    rows = now["rows"]
    names = ["a", "b", "cc", "abcdefgh"] * 3 + ["", "B"]
    name, seams = names[deal(len(names))], sorted(spots(rows)) + [7777]
    sort = deal(10)
    if sort < 2:
        words = wandered(rows, deal(1000), 30) + [[], [0]]
        return ("lay", name, words[deal(len(words))])
    if sort == 2:
        counts = dealt_counts(rows, deal(1000), 2)
        if deal(4) == 0:
            counts[seams[deal(len(seams))]] = deal(4)
        return ("pour", name, counts)
    if sort == 3:
        return ("lift", name)
    if sort == 4:
        return ("weigh", seams[deal(len(seams))], deal(9), deal(9) + 1)
    if sort < 7:
        free = free_by_words(rows) + [seams[deal(len(seams))]]
        return ("turn", free[deal(len(free))], ("left", "right", "left", "right", "up")[deal(5)])
    return ("back",) if sort < 9 else ("again",)
