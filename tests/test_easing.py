"""Points 1 and 16: easing numbers, and numbers led along rows of exchanges."""

import itertools
import math
import unittest

from tentloops.counts import led, look_counts, tally, traced
from tentloops.easing import eased, led_along
from tentloops.errors import Locked, NoCounts, NoSeam, NoWay, Rim, TooMany, Uneven, Wide
from tentloops.exchange import driven, exchanged, undoing
from tentloops.pulling import pulled_along
from tentloops.tents import Tent
from tentloops.words import least
from oracles import behind_by_words, eased_by_words, free_by_words, number_by_words
from samples import (
    ALL, BALL, CONE, FLAP, KITE, MIXED, POUCH, PRETZEL, TORUS, WAYS, band, dealt_counts, dealt_moves, free_seams,
    many_tents, noughts,
)

TOP = 10 ** 61 - 1
TWO = TORUS + [(3, 4, 5), (3, 4, 5)]


def left(*names):
    return [(name, "left") for name in names]


def tangled():
    """Tents of all sorts with numbers that have been led away from the easiest."""
    told = []
    for k, rows in enumerate(many_tents()):
        told.append((rows, dealt_counts(rows, 17 * k + 3, 2)))
    for k, rows in enumerate([TORUS, TWO, PRETZEL, POUCH, BALL, MIXED, band(5)]):
        for seed in range(8):
            counts = dealt_counts(rows, 100 * k + seed, 1)
            at = rows
            for seam, way in dealt_moves(rows, 50 * k + seed, 7):
                counts = {**counts, seam: number_by_words(at, counts, seam)}
                at = behind_by_words(at, seam, way)
            told.append((at, counts))
    return [(rows, counts) for rows, counts in told if sum(counts.values()) <= 600]


class EasedTest(unittest.TestCase):

    def test_by_hand(self):
        self.assertEqual(eased(Tent(TORUS), {0: 1, 1: 2, 2: 3}), left(2, 1))
        self.assertEqual(eased(Tent(TORUS), {0: 2, 1: 3, 2: 5}), left(2, 1, 0))
        self.assertEqual(eased(Tent(TORUS), {0: 1, 1: 1, 2: 2}), left(2))
        self.assertEqual(eased(Tent(BALL), {1: 1, 2: 2, 4: 1}), left(2, 1))

    def test_kinds_of_values(self):
        told = eased(Tent(TORUS), {0: 1, 1: 2, 2: 3})
        self.assertIs(type(told), list)
        self.assertTrue(all(type(pair) is tuple for pair in told))

    def test_nothing_eases(self):
        self.assertEqual(eased(Tent(TORUS), {0: 1, 1: 1, 2: 0}), [])
        self.assertEqual(eased(Tent(TORUS), {0: 2, 1: 2, 2: 2}), [])
        self.assertEqual(eased(Tent(TORUS), {0: 200, 1: 200, 2: 200}), [])
        # A locked seam cannot be exchanged, however great its number is.
        self.assertEqual(eased(Tent(CONE), {5: 600, 7: 0}), [])
        self.assertEqual(eased(Tent(FLAP), {1: 0, 2: 0, 3: 0}), [])

    def test_all_nought(self):
        for rows in ALL + [band(40)]:
            self.assertEqual(eased(Tent(rows), noughts(rows)), [])

    def test_the_one_that_makes_it_less_by_most(self):
        # Seam 5 goes from 6 to 2, seam 2 from 3 to 1.
        self.assertEqual(eased(Tent(TWO), {0: 1, 1: 2, 2: 3, 3: 2, 4: 4, 5: 6}), left(5, 4, 2, 1))
        # Seam 5 is the greater one, but seam 2 gets less by more.
        self.assertEqual(eased(Tent(TWO), {0: 2, 1: 4, 2: 6, 3: 10, 4: 1, 5: 11})[:3], left(2, 1, 5))
        self.assertEqual(eased(Tent(TWO), {0: 1, 1: 3, 2: 4, 3: 8, 4: 8, 5: 8}), left(2, 1, 2))

    def test_of_several_the_least_name(self):
        self.assertEqual(eased(Tent(TWO), {0: 1, 1: 2, 2: 3, 3: 1, 4: 2, 5: 3}), left(2, 1, 5, 4))
        self.assertEqual(eased(Tent(TWO), {0: 2, 1: 1, 2: 1, 3: 2, 4: 1, 5: 1}), left(0, 3))
        # The least name, whichever cloth it stands in, and as a number.
        rows = [(11, 12, 13), (11, 12, 13), (8, 9, 10), (8, 9, 10)]
        self.assertEqual(eased(Tent(rows), {11: 1, 12: 1, 13: 2, 8: 1, 9: 1, 10: 2}), left(10, 13))

    def test_a_seam_that_is_locked_at_first(self):
        rows = behind_by_words(BALL, 2, "left")
        # In those rows seams 1, 2 and 4 are free; behind seam 1's exchange only it is.
        self.assertEqual(free_by_words(rows), [1, 2, 4])
        self.assertEqual(free_by_words(behind_by_words(rows, 1, "left")), [1])
        self.assertEqual(eased(Tent(rows), {1: 4, 2: 2, 4: 2}), left(1))

    def test_on_the_torus_it_ends_where_two_are_left(self):
        for p, q in itertools.product(range(9), repeat=2):
            counts = {0: p, 1: q, 2: p + q}
            told = eased(Tent(TORUS), counts)
            many = math.gcd(p, q)
            self.assertEqual(sorted(led_along(Tent(TORUS), told, counts).values()), [0, many, many])

    def test_against_the_words(self):
        for rows, counts in tangled():
            self.assertEqual(eased(Tent(rows), counts), eased_by_words(rows, counts))

    def test_each_makes_less_and_then_none_does(self):
        longest = 0
        for rows, counts in tangled():
            tent, moves = Tent(rows), eased(Tent(rows), counts)
            longest = max(longest, len(moves))
            for seam, way in moves:
                self.assertEqual(way, "left")
                self.assertLess(led(tent, counts, seam)[seam], counts[seam])
                tent, counts = exchanged(tent, seam, way), led(tent, counts, seam)
            for seam in free_seams(tent):
                self.assertGreaterEqual(led(tent, counts, seam)[seam], counts[seam])
        # The samples have something to ease.
        self.assertGreater(longest, 4)

    def test_sum_of_600_and_above(self):
        self.assertEqual(eased(Tent(TORUS), {0: 100, 1: 200, 2: 300}), left(2, 1))
        self.assertEqual(eased(Tent(TORUS), {0: 150, 1: 150, 2: 300}), left(2))
        self.assertRaises(TooMany, eased, Tent(TORUS), {0: 100, 1: 201, 2: 301})
        self.assertRaises(TooMany, eased, Tent(TORUS), {0: 301, 1: 301, 2: 0})
        self.assertRaises(TooMany, eased, Tent(CONE), {5: 601, 7: 0})
        self.assertRaises(TooMany, eased, Tent(TORUS), {0: TOP, 1: TOP, 2: 2})

    def test_refusals(self):
        for more in (0, 1000):
            self.assertRaises(NoCounts, eased, Tent(TORUS), {0: 2 + more, 1: 2 + more})
            self.assertRaises(NoCounts, eased, Tent(TORUS), {0: -2, 1: 2 + more, 2: more})
            self.assertRaises(NoCounts, eased, Tent(CONE), {5: more, 7: 1})
            self.assertRaises(Uneven, eased, Tent(TORUS), {0: 1 + more, 1: 1 + more, 2: 1})
            self.assertRaises(Wide, eased, Tent(TORUS), {0: 2 + more, 1: 0, 2: 0})


class LedAlongTest(unittest.TestCase):

    def test_empty_row(self):
        for rows, counts in tangled():
            self.assertEqual(led_along(Tent(rows), [], counts), counts)

    def test_by_hand(self):
        counts = {0: 1, 1: 2, 2: 3}
        self.assertEqual(led_along(Tent(TORUS), left(2), counts), {0: 1, 1: 2, 2: 1})
        self.assertEqual(led_along(Tent(TORUS), left(2, 1), counts), {0: 1, 1: 0, 2: 1})
        self.assertEqual(led_along(Tent(TORUS), [(2, "right"), (1, "left")], counts), {0: 1, 1: 0, 2: 1})
        self.assertEqual(led_along(Tent(TORUS), left(0, 0), counts), counts)
        self.assertIs(type(led_along(Tent(TORUS), left(2), counts)), dict)

    def test_each_in_the_tent_as_it_is_by_then(self):
        # Seam 1 is locked until seam 2 is exchanged.
        counts = {1: 3, 2: 2, 4: 4}
        self.assertEqual(led_along(Tent(BALL), left(2, 1), counts), {1: 6, 2: 5, 4: 4})
        self.assertRaises(Locked, led_along, Tent(BALL), left(1, 2), counts)

    def test_against_the_words(self):
        for k, (rows, counts) in enumerate(tangled()):
            moves = dealt_moves(rows, 600 + k, 9)
            wanted, at = counts, rows
            for seam, way in moves:
                wanted = {**wanted, seam: number_by_words(at, wanted, seam)}
                at = behind_by_words(at, seam, way)
            told = led_along(Tent(rows), moves, counts)
            self.assertEqual(told, wanted)
            self.assertIsNone(look_counts(driven(Tent(rows), moves), told))

    def test_the_row_that_leads_back(self):
        for k, (rows, counts) in enumerate(tangled()):
            moves = dealt_moves(rows, 700 + k, 9)
            there = driven(Tent(rows), moves)
            self.assertEqual(led_along(there, undoing(moves), led_along(Tent(rows), moves, counts)), counts)

    def test_threads_of_a_family_are_pulled_along(self):
        for k, (rows, counts) in enumerate(tangled()):
            tent, moves = Tent(rows), dealt_moves(rows, 800 + k, 3)
            there, behind = led_along(tent, moves, counts), driven(tent, moves)
            family = [pulled_along(tent, moves, word) for word in traced(tent, counts)]
            if sum(there.values()) <= 600:
                self.assertEqual(traced(behind, there), sorted(least(behind, word) for word in family))
            for word, first in zip(family, traced(tent, counts)):
                self.assertEqual(tally(behind, word), led_along(tent, moves, tally(tent, first)))

    def test_numbers_just_below_the_limit(self):
        counts = {0: TOP, 1: TOP, 2: 2}
        self.assertEqual(led_along(Tent(TORUS), left(2), counts), {0: TOP, 1: TOP, 2: 2 * TOP - 2})
        self.assertEqual(led_along(Tent(TORUS), left(2, 0), counts), {0: 3 * TOP - 4, 1: TOP, 2: 2 * TOP - 2})
        self.assertEqual(led_along(Tent(TORUS), left(2, 0, 0, 2), counts), counts)
        self.assertEqual(led_along(Tent(TORUS), [], counts), counts)

    def test_sums_above_600_are_not_refused(self):
        self.assertEqual(led_along(Tent(TORUS), left(2), {0: 301, 1: 301, 2: 0}), {0: 301, 1: 301, 2: 602})

    def test_refusals_of_numbers_go_ahead_of_all_others(self):
        for moves in ([], left(0), left(9), [(0, "up")], [(9, "up")], left(0, 9)):
            self.assertRaises(NoCounts, led_along, Tent(TORUS), moves, {0: 1, 1: 1})
            self.assertRaises(NoCounts, led_along, Tent(TORUS), moves, {0: -1, 1: 0, 2: 0})
            self.assertRaises(Uneven, led_along, Tent(TORUS), moves, {0: 5, 1: 0, 2: 0})
            self.assertRaises(Wide, led_along, Tent(TORUS), moves, {0: 4, 1: 0, 2: 0})
        for moves in (left(5), left(7), left(1), [(5, "")]):
            self.assertRaises(NoCounts, led_along, Tent(CONE), moves, {5: 1, 7: 1})

    def test_refusals_of_the_exchanges(self):
        counts = {0: 1, 1: 1, 2: 0}
        for seam in (0, 9, -1):
            for way in ("", "up", "Left"):
                self.assertRaises(NoWay, led_along, Tent(TORUS), [(seam, way)], counts)
                self.assertRaises(NoWay, led_along, Tent(TORUS), [(0, "left"), (seam, way)], counts)
        for way in WAYS:
            self.assertRaises(NoSeam, led_along, Tent(TORUS), [(0, "left"), (9, way)], counts)
            self.assertRaises(Rim, led_along, Tent(CONE), [(7, way)], {5: 1, 7: 0})
            self.assertRaises(Locked, led_along, Tent(CONE), [(5, way)], {5: 1, 7: 0})
            self.assertRaises(Rim, led_along, Tent(KITE), [(0, way), (1, way)], noughts(KITE))
        self.assertRaises(NoWay, led_along, Tent(CONE), [(7, "up")], {5: 1, 7: 0})
        self.assertRaises(NoWay, led_along, Tent(CONE), [(5, "up")], {5: 1, 7: 0})

    def test_of_two_refusals_the_earlier_exchange_has_its_own(self):
        counts = {0: 1, 1: 1, 2: 0}
        self.assertRaises(NoSeam, led_along, Tent(TORUS), [(9, "left"), (0, "up")], counts)
        self.assertRaises(Locked, led_along, Tent(CONE), [(5, "left"), (9, "left")], {5: 1, 7: 0})


class KeepsNothingTest(unittest.TestCase):

    def test_what_is_handed_in_stays(self):
        tent, counts, moves = Tent(TORUS), {2: 3, 1: 2, 0: 1}, left(2, 1)
        eased(tent, counts)
        led_along(tent, moves, counts)
        self.assertEqual((list(counts.items()), moves), ([(2, 3), (1, 2), (0, 1)], left(2, 1)))
        self.assertEqual(tent.rows(), TORUS)

    def test_what_is_told_is_new(self):
        tent, counts = Tent(TORUS), {0: 1, 1: 2, 2: 3}
        eased(tent, counts).clear()
        eased(tent, {0: 0, 1: 0, 2: 0}).append(5)
        led_along(tent, [], counts)[0] = 77
        led_along(tent, [], counts).clear()
        led_along(tent, left(2), counts).clear()
        self.assertEqual(counts, {0: 1, 1: 2, 2: 3})
        self.assertEqual((eased(tent, counts), eased(tent, {0: 0, 1: 0, 2: 0})), (left(2, 1), []))
        self.assertEqual(led_along(tent, [], counts), counts)
        self.assertEqual(led_along(tent, left(2), counts), {0: 1, 1: 2, 2: 1})

    def test_changing_what_was_handed_in_changes_nothing_told(self):
        tent, counts, moves = Tent(TORUS), {0: 1, 1: 2, 2: 3}, left(2)
        told = [eased(tent, counts), led_along(tent, [], counts), led_along(tent, moves, counts)]
        moves.clear()
        counts[0] = 9
        counts.clear()
        self.assertEqual(told, [left(2, 1), {0: 1, 1: 2, 2: 3}, {0: 1, 1: 2, 2: 1}])


if __name__ == "__main__":
    unittest.main()
