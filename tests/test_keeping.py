"""Point 1 over the whole program: nothing handed in is changed, and nothing handed in or told is kept."""

import copy
import unittest

from tentloops.book import answered, read, written
from tentloops.counts import flow, led, look_counts, tally, traced
from tentloops.easing import eased, led_along
from tentloops.exchange import driven, exchanged, square, undoing
from tentloops.matching import carried, matched
from tentloops.pulling import pulled, pulled_along
from tentloops.rounds import about, pieces, points, rims, shape
from tentloops.stretch import even_worths, stretched, worth
from tentloops.tents import Tent
from tentloops.words import alike, backward, least, letters, plain, times, turned, walked
from model import answers_of, small_hall
from samples import BALL, MIXED, POUCH, TORUS

MOVES = [(0, "left"), (1, "right"), (0, "right")]
COUNTS = {2: 3, 1: 2, 0: 1}
WORTHS = {2: (4, 6), 1: (2, 2), 0: (3, 9)}
WORD = [0, 4, 2, 4]

# Each function that takes or tells a list, a dict or a Tent, with what it is handed behind the tent.
OF_A_TENT = [
    (square, 0), (exchanged, 0, "left"), (driven, []), (driven, MOVES), (plain, WORD), (backward, WORD), (least, WORD),
    (alike, WORD, WORD), (times, WORD), (letters, WORD), (walked, 0, "LR"), (walked, 0, ""), (pulled, 0, "left", WORD),
    (pulled_along, [], WORD), (pulled_along, MOVES, WORD), (tally, WORD), (flow, WORD), (look_counts, COUNTS),
    (led, COUNTS, 0), (traced, COUNTS), (eased, COUNTS), (led_along, [], COUNTS), (led_along, MOVES, COUNTS), (points,),
    (about, 0), (rims,), (pieces,), (shape,), (stretched, WORTHS, 0), (worth, WORTHS, WORD), (even_worths,),
    (Tent.rows,), (Tent.seams,), (Tent.places, 0),
]


def spoil(value):
    """Change a list or a dict, and all lists and dicts within it."""
    if isinstance(value, (list, tuple)):
        for each in value:
            spoil(each)
    if isinstance(value, dict):
        for each in value.values():
            spoil(each)
        value[0] = "spoilt"
        value["more"] = 1
        value.pop(1, None)
    if isinstance(value, list):
        value.append("spoilt")
        value[0] = "spoilt"
        value.reverse()


def told(value):
    """What is told, with the rows for a Tent, as something to compare."""
    return value.rows() if isinstance(value, Tent) else copy.deepcopy(value)


class TentTest(unittest.TestCase):

    def test_nothing_handed_in_is_changed(self):
        tent = Tent(TORUS)
        for ask, *given in OF_A_TENT:
            handed = copy.deepcopy(given)
            ask(tent, *handed)
            self.assertEqual(handed, given, ask)
            # The order of a dict is not changed either.
            for one, other in zip(handed, given):
                if isinstance(one, dict):
                    self.assertEqual(list(one), list(other))
        self.assertEqual(tent.rows(), TORUS)

    def test_spoiling_what_was_told_changes_no_later_answer(self):
        tent = Tent(TORUS)
        first = [told(ask(tent, *copy.deepcopy(given))) for ask, *given in OF_A_TENT]
        for ask, *given in OF_A_TENT:
            spoil(ask(tent, *copy.deepcopy(given)))
            again = [told(one(tent, *copy.deepcopy(others))) for one, *others in OF_A_TENT]
            self.assertEqual(again, first, ask)

    def test_what_was_told_is_not_what_was_handed_in(self):
        for ask, *given in OF_A_TENT:
            handed = copy.deepcopy(given)
            answer = ask(Tent(TORUS), *handed)
            wanted = told(answer)
            spoil(handed)
            self.assertEqual(told(answer), wanted, ask)
            handed = copy.deepcopy(given)
            spoil(ask(Tent(TORUS), *handed))
            self.assertEqual(handed, given, ask)

    def test_of_no_tent_or_of_two(self):
        for ask, given in ((undoing, [MOVES]), (turned, [WORD, 0]), (turned, [WORD, 1]), (turned, [[], 1]),
                           (matched, [Tent(TORUS), Tent(TORUS)]), (carried, [Tent(TORUS), Tent(TORUS), WORD])):
            first = copy.deepcopy(ask(*given))
            spoil(ask(*given))
            self.assertEqual(ask(*given), first)
        self.assertEqual((MOVES[0], WORD), ((0, "left"), [0, 4, 2, 4]))

    def test_the_rows_of_a_tent_behind_an_exchange(self):
        for rows, seam in ((TORUS, 0), (BALL, 2), (MIXED, 8), (POUCH, 4)):
            tent = Tent(rows)
            behind = exchanged(tent, seam, "left")
            wanted = behind.rows()
            spoil(tent.rows())
            spoil(behind.rows())
            spoil(behind.places(seam))
            self.assertEqual((behind.rows(), tent.rows()), (wanted, rows))


class HallTest(unittest.TestCase):

    def test_questions_of_a_hall(self):
        hall = small_hall()
        hall.turn(0, "left")
        wanted, family = answers_of(hall), hall.pool_threads("pool")
        for ask in (hall.deeds, hall.first_rows, hall.tent_rows, hall.names, hall.families, hall.numbers,
                    hall.fractions):
            spoil(ask())
            self.assertEqual(answers_of(hall), wanted)
        for ask, name in ((hall.thread, "a"), (hall.pool, "pool"), (hall.pool_threads, "pool")):
            spoil(ask(name))
            self.assertEqual((answers_of(hall), hall.pool_threads("pool")), (wanted, family))

    def test_texts(self):
        hall = small_hall()
        wanted, text = answers_of(hall), written(hall)
        other = read(text)
        spoil(other.first_rows())
        spoil(other.thread("a"))
        spoil(other.deeds())
        for order in ("tent", "numbers", "thread a", "least a", "pool pool"):
            self.assertEqual(answered(other, order), answered(hall, order))
        self.assertEqual((answers_of(other), answers_of(hall), written(other)), (wanted, wanted, text))


if __name__ == "__main__":
    unittest.main()
