"""Points 1 and 13 to 15: numbers, and the families of threads that they tell."""

import itertools
import math
import unittest

from tentloops.counts import flow, led, look_counts, tally, traced
from tentloops.errors import Locked, NoCounts, NoSeam, NoThread, Rim, TooMany, Uneven, Wide
from tentloops.exchange import exchanged
from tentloops.pulling import pulled
from tentloops.tents import Tent
from tentloops.words import backward, least
from oracles import (
    family_by_arcs, mate_of, number_by_words, plain_by_words, refusal_by_words, spots, tally_by_words,
)
from samples import (
    ALL, BALL, CONE, FLAP, HEAP, KITE, MIXED, POUCH, PRETZEL, TORUS, WAYS, band, dealt_counts, free_seams, many_tents,
    noughts, scattered, wandered,
)

TOP = 10 ** 61 - 1
TORUS_AGAIN = [(10, 11, 12), (10, 11, 12)]
SMALL = [TORUS, CONE, BALL, MIXED, POUCH, KITE, FLAP, [(1, 4, 2), (2, 4, 1)], scattered(3, 2)]


def all_counts(rows, least_number, most):
    """All numbers from the least to the most for sewn seams, and nought for rims."""
    names = sorted(spots(rows))
    ranges = [range(least_number, most + 1) if len(spots(rows)[s]) == 2 else range(1) for s in names]
    return [dict(zip(names, numbers)) for numbers in itertools.product(*ranges)]


def good_counts(rows, most):
    return [counts for counts in all_counts(rows, 0, most) if refusal_by_words(rows, counts) is None]


def families():
    """Tents of all sorts, each with numbers that are not refused."""
    told = [(rows, counts) for rows in SMALL for counts in good_counts(rows, 4)[:60]]
    return told + [(rows, dealt_counts(rows, 31 * k + 7)) for k, rows in enumerate(many_tents())]


class TallyTest(unittest.TestCase):

    def test_by_hand(self):
        self.assertEqual(tally(Tent(TORUS), [0, 4]), {0: 1, 1: 1, 2: 0})
        self.assertEqual(tally(Tent(TORUS), [0, 4, 2, 3, 1, 5]), {0: 2, 1: 2, 2: 2})
        self.assertEqual(tally(Tent(TORUS), [0, 4, 2, 4]), {0: 1, 1: 2, 2: 1})

    def test_locked_seams_and_rims(self):
        self.assertEqual(tally(Tent(CONE), [0]), {5: 1, 7: 0})
        self.assertEqual(tally(Tent(CONE), [1, 1, 1]), {5: 3, 7: 0})
        self.assertEqual(tally(Tent(BALL), [1, 2, 4, 3]), {1: 1, 2: 2, 4: 1})

    def test_several_pieces(self):
        self.assertEqual(tally(Tent(HEAP), [9]), {0: 0, 1: 0, 2: 0, 20: 0, 21: 0, 22: 0, 30: 1, 31: 0})

    def test_against_the_words(self):
        for number, rows in enumerate(many_tents()):
            for word in wandered(rows, number):
                told = tally(Tent(rows), word)
                self.assertIs(type(told), dict)
                self.assertEqual(told, tally_by_words(rows, word))
                self.assertEqual(tally(Tent(rows), backward(Tent(rows), word)), told)
                self.assertIsNone(look_counts(Tent(rows), told))

    def test_two_thousand_places(self):
        self.assertEqual(tally(Tent(TORUS), [0, 4] * 1000), {0: 1000, 1: 1000, 2: 0})

    def test_no_thread(self):
        for word in ([], [0], [0, 3], [0, 4, 2], [6], [-1]):
            self.assertRaises(NoThread, tally, Tent(TORUS), word)
        self.assertRaises(NoThread, tally, Tent(CONE), [2])
        self.assertRaises(NoThread, tally, Tent(FLAP), [0])


class FlowTest(unittest.TestCase):

    def test_by_hand(self):
        self.assertEqual(flow(Tent(TORUS), [0, 4]), [1, -1, 0, -1, 1, 0])
        self.assertEqual(flow(Tent(TORUS), [1, 3]), [-1, 1, 0, 1, -1, 0])
        self.assertEqual(flow(Tent(TORUS), [0, 4] * 3), [3, -3, 0, -3, 3, 0])

    def test_both_ways_over_one_seam(self):
        self.assertEqual(flow(Tent(TORUS), [0, 4, 2, 3, 1, 5]), [0] * 6)
        self.assertEqual(flow(Tent(BALL), [1, 2, 4, 3]), [-1, 1, 0, 0, 1, -1])

    def test_within_one_cloth(self):
        self.assertEqual(flow(Tent(CONE), [0]), [1, -1, 0])
        self.assertEqual(flow(Tent(CONE), [1, 1]), [-2, 2, 0])

    def test_against_the_words(self):
        for number, rows in enumerate(many_tents()):
            for word in wandered(rows, 300 + number):
                tent = Tent(rows)
                ins = [mate_of(rows, place) for place in word]
                wanted = [word.count(place) - ins.count(place) for place in range(3 * len(rows))]
                self.assertEqual(flow(tent, word), wanted)
                self.assertEqual(flow(tent, backward(tent, word)), [-k for k in wanted])

    def test_two_thousand_places(self):
        self.assertEqual(flow(Tent(TORUS), [0, 4] * 1000), [1000, -1000, 0, -1000, 1000, 0])

    def test_no_thread(self):
        for word in ([], [0], [0, 3], [0, 4, 2], [6], [-1]):
            self.assertRaises(NoThread, flow, Tent(TORUS), word)
        self.assertRaises(NoThread, flow, Tent(CONE), [2])
        self.assertRaises(NoThread, flow, Tent(FLAP), [0])


class LookCountsTest(unittest.TestCase):

    def test_good_ones(self):
        for rows, counts in families():
            self.assertIsNone(look_counts(Tent(rows), counts))

    def test_all_nought(self):
        for rows in ALL + [band(40)]:
            self.assertIsNone(look_counts(Tent(rows), noughts(rows)))

    def test_names(self):
        for counts in ({}, {0: 2, 1: 2}, {0: 2, 1: 2, 3: 2}, {0: 2, 1: 2, 2: 2, 3: 0}, {0: 0, 1: 0, 2: 0, -1: 0}):
            self.assertRaises(NoCounts, look_counts, Tent(TORUS), counts)
        # A rim has a number too, and it is nought.
        self.assertRaises(NoCounts, look_counts, Tent(CONE), {5: 1})
        self.assertIsNone(look_counts(Tent(CONE), {7: 0, 5: 1}))

    def test_below_nought_and_rims(self):
        self.assertRaises(NoCounts, look_counts, Tent(TORUS), {0: -2, 1: 2, 2: 4})
        self.assertRaises(NoCounts, look_counts, Tent(TORUS), {0: 2, 1: 2, 2: -4})
        self.assertRaises(NoCounts, look_counts, Tent(CONE), {5: 1, 7: 2})
        self.assertRaises(NoCounts, look_counts, Tent(CONE), {5: 1, 7: -2})
        self.assertRaises(NoCounts, look_counts, Tent(FLAP), {1: 2, 2: 2, 3: 0})
        self.assertIsNone(look_counts(Tent(FLAP), {1: 0, 2: 0, 3: 0}))

    def test_uneven(self):
        self.assertRaises(Uneven, look_counts, Tent(TORUS), {0: 1, 1: 1, 2: 1})
        self.assertRaises(Uneven, look_counts, Tent(TORUS), {0: 2, 1: 2, 2: 3})
        self.assertIsNone(look_counts(Tent(TORUS), {0: 1, 1: 1, 2: 2}))

    def test_wide(self):
        self.assertRaises(Wide, look_counts, Tent(TORUS), {0: 1, 1: 1, 2: 4})
        self.assertRaises(Wide, look_counts, Tent(TORUS), {0: 4, 1: 1, 2: 1})
        self.assertRaises(Wide, look_counts, Tent(TORUS), {0: 0, 1: 2, 2: 0})
        self.assertRaises(Wide, look_counts, Tent(KITE), {0: 2, 1: 0, 2: 0, 3: 0, 4: 0})

    def test_a_locked_seam_counts_twice(self):
        for number in (1, 2, 3, 600):
            self.assertIsNone(look_counts(Tent(CONE), {5: number, 7: 0}))
        self.assertRaises(Uneven, look_counts, Tent(BALL), {1: 1, 2: 1, 4: 1})
        self.assertIsNone(look_counts(Tent(BALL), {1: 1, 2: 2, 4: 1}))
        self.assertRaises(Wide, look_counts, Tent(BALL), {1: 1, 2: 4, 4: 2})
        self.assertRaises(Wide, look_counts, Tent(BALL), {1: 2, 2: 4, 4: 1})

    def test_just_below_the_limit(self):
        tent = Tent(TORUS)
        self.assertIsNone(look_counts(tent, {0: TOP, 1: TOP, 2: 2}))
        self.assertIsNone(look_counts(tent, {0: TOP - 1, 1: TOP - 1, 2: TOP - 1}))
        self.assertIsNone(look_counts(tent, {0: TOP, 1: TOP // 2, 2: TOP - TOP // 2}))
        self.assertRaises(Uneven, look_counts, tent, {0: TOP, 1: TOP, 2: TOP})
        self.assertRaises(Uneven, look_counts, tent, {0: TOP, 1: TOP - 1, 2: 2})
        self.assertRaises(Wide, look_counts, tent, {0: TOP, 1: TOP // 2, 2: TOP - TOP // 2 - 2})
        self.assertRaises(NoCounts, look_counts, tent, {0: -TOP, 1: TOP, 2: 2})

    def test_order_of_refusals(self):
        tent = Tent(TORUS)
        self.assertRaises(NoCounts, look_counts, tent, {0: -1, 1: 0, 2: 0})
        self.assertRaises(NoCounts, look_counts, tent, {0: 5, 1: 0, 2: -2})
        self.assertRaises(NoCounts, look_counts, tent, {0: 5, 1: 0, 3: 0})
        self.assertRaises(Uneven, look_counts, tent, {0: 5, 1: 0, 2: 0})
        # The first cloth's number is wide, and a later cloth's sum is odd.
        heap = noughts(HEAP + TORUS_AGAIN)
        self.assertRaises(Uneven, look_counts, Tent(HEAP + TORUS_AGAIN), {**heap, 0: 4, 12: 1})
        self.assertRaises(Wide, look_counts, Tent(HEAP + TORUS_AGAIN), {**heap, 0: 4, 12: 2})
        # An earlier cloth's sum is odd or its number wide, and a later rim's is not nought.
        self.assertRaises(NoCounts, look_counts, Tent(HEAP), {**noughts(HEAP), 0: 1, 31: 2})
        self.assertRaises(NoCounts, look_counts, Tent(HEAP), {**noughts(HEAP), 0: 2, 31: 2})
        self.assertRaises(NoCounts, look_counts, Tent(CONE), {5: 1, 7: 4})

    def test_all_small_numbers(self):
        for rows in SMALL:
            for counts in all_counts(rows, -1, 3):
                wanted = refusal_by_words(rows, counts)
                if wanted is None:
                    self.assertIsNone(look_counts(Tent(rows), counts))
                else:
                    self.assertRaises(wanted, look_counts, Tent(rows), counts)


class LedTest(unittest.TestCase):

    def test_by_hand(self):
        counts = {0: 1, 1: 2, 2: 3}
        self.assertEqual(led(Tent(TORUS), counts, 0), {0: 5, 1: 2, 2: 3})
        self.assertEqual(led(Tent(TORUS), counts, 1), {0: 1, 1: 4, 2: 3})
        self.assertEqual(led(Tent(TORUS), counts, 2), {0: 1, 1: 2, 2: 1})
        self.assertIs(type(led(Tent(TORUS), counts, 0)), dict)

    def test_each_of_the_two_sums_can_be_the_greater(self):
        # Seam 6 of the pretzel lies between cloths (5, 1, 6) and (6, 2, 7).
        counts = {0: 0, 1: 2, 2: 4, 3: 4, 4: 2, 5: 2, 6: 2, 7: 4, 8: 2}
        # a is at seam 5, b at 1, c at 2, d at 7.
        self.assertEqual(led(Tent(PRETZEL), counts, 6)[6], 2 + 4 - 2)
        self.assertEqual(led(Tent(PRETZEL), {**counts, 7: 6}, 6)[6], 2 + 6 - 2)
        self.assertEqual(led(Tent(PRETZEL), {**counts, 2: 6}, 6)[6], 2 + 6 - 2)

    def test_square_whose_places_share_names(self):
        self.assertEqual(led(Tent(BALL), {1: 1, 2: 2, 4: 1}, 2), {1: 1, 2: 0, 4: 1})
        self.assertEqual(led(Tent(BALL), {1: 3, 2: 2, 4: 4}, 2), {1: 3, 2: 5, 4: 4})

    def test_rims_in_the_square(self):
        counts = {0: 0, 1: 0, 2: 0, 3: 0, 4: 0}
        self.assertEqual(led(Tent(KITE), counts, 0), counts)
        self.assertEqual(led(Tent(band(3)), {**noughts(band(3)), 0: 4, 1: 4, 2: 4}, 1)[1], 0)

    def test_all_nought(self):
        for rows in ALL:
            for seam in free_seams(Tent(rows)):
                self.assertEqual(led(Tent(rows), noughts(rows), seam), noughts(rows))

    def test_just_below_the_limit(self):
        self.assertEqual(led(Tent(TORUS), {0: TOP, 1: TOP, 2: 2}, 2), {0: TOP, 1: TOP, 2: 2 * TOP - 2})
        self.assertEqual(led(Tent(TORUS), {0: TOP, 1: TOP, 2: 2}, 0), {0: TOP, 1: TOP, 2: 2})
        one, other = TOP // 2, TOP - TOP // 2
        self.assertEqual(led(Tent(TORUS), {0: TOP, 1: one, 2: other}, 0), {0: 2 * other - TOP, 1: one, 2: other})

    def test_against_the_words(self):
        for rows, counts in families():
            for seam in free_seams(Tent(rows)):
                wanted = {**counts, seam: number_by_words(rows, counts, seam)}
                self.assertEqual(led(Tent(rows), counts, seam), wanted)

    def test_numbers_behind_are_not_refused_and_lead_back(self):
        for rows, counts in families():
            for seam in free_seams(Tent(rows)):
                there = led(Tent(rows), counts, seam)
                for way in WAYS:
                    behind = exchanged(Tent(rows), seam, way)
                    self.assertIsNone(look_counts(behind, there))
                    self.assertEqual(led(behind, there, seam), counts)

    def test_refusals_of_the_seam_go_ahead(self):
        for counts in ({5: 1, 7: 0}, {}, {5: -1, 7: 0}, {5: 1, 7: 3}, {5: 1, 7: 1}):
            self.assertRaises(NoSeam, led, Tent(CONE), counts, 6)
            self.assertRaises(NoSeam, led, Tent(CONE), counts, -1)
            self.assertRaises(Rim, led, Tent(CONE), counts, 7)
            self.assertRaises(Locked, led, Tent(CONE), counts, 5)
        for counts in ({0: 1, 1: 0, 2: 0}, {0: 2, 1: 0, 2: 0}):
            self.assertRaises(NoSeam, led, Tent(TORUS), counts, 3)

    def test_refusals_of_the_numbers(self):
        for seam in (0, 1, 2):
            self.assertRaises(NoCounts, led, Tent(TORUS), {0: 1, 1: 1}, seam)
            self.assertRaises(NoCounts, led, Tent(TORUS), {0: 2, 1: 2, 2: -2}, seam)
            self.assertRaises(Uneven, led, Tent(TORUS), {0: 1, 1: 0, 2: 0}, seam)
            self.assertRaises(Wide, led, Tent(TORUS), {0: 2, 1: 0, 2: 0}, seam)
        self.assertRaises(NoCounts, led, Tent(KITE), {0: 0, 1: 2, 2: 0, 3: 0, 4: 0}, 0)
        # Refused by a cloth that is not one of the square's.
        self.assertRaises(Wide, led, Tent(HEAP + TORUS_AGAIN), {**noughts(HEAP + TORUS_AGAIN), 12: 2}, 0)


class TracedTest(unittest.TestCase):

    def test_by_hand(self):
        self.assertEqual(traced(Tent(TORUS), {0: 1, 1: 1, 2: 0}), [[0, 4]])
        self.assertEqual(traced(Tent(TORUS), {0: 1, 1: 1, 2: 2}), [[0, 5, 1, 5]])
        self.assertEqual(traced(Tent(TORUS), {0: 2, 1: 2, 2: 2}), [[0, 4, 2, 3, 1, 5]])
        self.assertEqual(traced(Tent(TORUS), {0: 1, 1: 2, 2: 3}), [[0, 5, 1, 5, 1, 5]])

    def test_unlike_threads_rise(self):
        told = traced(Tent(TORUS), {0: 3, 1: 3, 2: 2})
        self.assertEqual(told, [[0, 4], [0, 4, 2, 3, 1, 5]])
        told = traced(Tent(TORUS), {0: 3, 1: 4, 2: 5})
        self.assertEqual(told, [[0, 4, 2, 3, 1, 5], [0, 5, 1, 5, 1, 5]])
        # Cloth 4 has the places 12 to 14: lists are compared as numbers, not as texts.
        counts = {**noughts(HEAP + TORUS_AGAIN), 30: 1, 10: 1, 11: 1, 0: 1, 2: 1}
        self.assertEqual(traced(Tent(HEAP + TORUS_AGAIN), counts), [[0, 8], [9], [12, 16]])

    def test_one_that_is_there_several_times(self):
        self.assertEqual(traced(Tent(TORUS), {0: 3, 1: 3, 2: 0}), [[0, 4]] * 3)
        self.assertEqual(traced(Tent(TORUS), {0: 4, 1: 4, 2: 4}), [[0, 4, 2, 3, 1, 5]] * 2)
        self.assertEqual(traced(Tent(TORUS), {0: 4, 1: 4, 2: 2}), [[0, 4]] * 2 + [[0, 4, 2, 3, 1, 5]])
        self.assertEqual(traced(Tent(CONE), {5: 4, 7: 0}), [[0]] * 4)

    def test_on_the_torus_their_count_is_the_greatest_common_part(self):
        for p, q in itertools.product(range(13), repeat=2):
            told = traced(Tent(TORUS), {0: p, 1: q, 2: p + q})
            many = math.gcd(p, q)
            self.assertEqual(len(told), many)
            if many:
                self.assertEqual(told, traced(Tent(TORUS), {0: p // many, 1: q // many, 2: (p + q) // many}) * many)

    def test_locked_seams(self):
        self.assertEqual(traced(Tent(CONE), {5: 1, 7: 0}), [[0]])
        self.assertEqual(traced(Tent(BALL), {1: 1, 2: 0, 4: 0}), [[0]])
        self.assertEqual(traced(Tent(BALL), {1: 1, 2: 2, 4: 1}), [[0, 2, 4, 3]])
        self.assertEqual(traced(Tent(BALL), {1: 2, 2: 2, 4: 3}), [[0], [0, 2, 4, 3], [4], [4]])

    def test_all_nought(self):
        for rows in ALL + [band(40)]:
            self.assertEqual(traced(Tent(rows), noughts(rows)), [])

    def test_forty_cloths(self):
        rows = band(40)
        core = [0] + [3 * k for k in range(39, 0, -1)]
        for many in (1, 15):
            counts = {name: many if name < 40 else 0 for name in spots(rows)}
            self.assertEqual(traced(Tent(rows), counts), [core] * many)

    def test_against_the_ties_around_corners(self):
        for rows, counts in families():
            self.assertEqual(traced(Tent(rows), counts), family_by_arcs(rows, counts))

    def test_kinds_of_values(self):
        for rows, counts in families():
            told = traced(Tent(rows), counts)
            self.assertIs(type(told), list)
            self.assertTrue(all(type(word) is list for word in told))

    def test_they_are_least_forms_rising_and_have_the_numbers(self):
        for rows, counts in families():
            told = traced(Tent(rows), counts)
            self.assertEqual(told, sorted(told))
            for word in told:
                self.assertTrue(plain_by_words(rows, word))
                self.assertEqual(word, least(Tent(rows), word))
            tallies = [tally_by_words(rows, word) for word in told]
            self.assertEqual({name: sum(one[name] for one in tallies) for name in counts}, counts)

    def test_each_tells_itself(self):
        for rows, counts in families():
            for word in traced(Tent(rows), counts):
                self.assertEqual(traced(Tent(rows), tally(Tent(rows), word)), [word])

    def test_a_family_behind_an_exchange(self):
        # Each thread's tally keeps to point 14, and the family of the numbers behind are the pulled threads.
        for rows, counts in families():
            tent = Tent(rows)
            family = traced(tent, counts)
            for seam in free_seams(tent)[::1 + len(rows) // 8]:
                for way in WAYS:
                    behind = exchanged(tent, seam, way)
                    for word in family:
                        there = pulled(tent, seam, way, word)
                        self.assertEqual(tally(behind, there), led(tent, tally(tent, word), seam))
                    wanted = sorted(least(behind, pulled(tent, seam, way, word)) for word in family)
                    self.assertEqual(traced(behind, led(tent, counts, seam)), wanted)

    def test_a_thread_that_goes_twice_round_is_none_of_a_family(self):
        self.assertEqual(traced(Tent(TORUS), tally(Tent(TORUS), [0, 4, 0, 4])), [[0, 4], [0, 4]])
        self.assertEqual(traced(Tent(CONE), tally(Tent(CONE), [1, 1])), [[0], [0]])


class TracedRefusalTest(unittest.TestCase):

    def test_sum_of_600(self):
        self.assertEqual(traced(Tent(TORUS), {0: 300, 1: 300, 2: 0}), [[0, 4]] * 300)
        self.assertEqual(traced(Tent(TORUS), {0: 200, 1: 200, 2: 200}), [[0, 4, 2, 3, 1, 5]] * 100)
        self.assertEqual(traced(Tent(CONE), {5: 600, 7: 0}), [[0]] * 600)
        told = traced(Tent(TORUS), {0: 300, 1: 299, 2: 1})
        self.assertEqual([len(word) for word in told], [600])
        self.assertEqual(told, family_by_arcs(TORUS, {0: 300, 1: 299, 2: 1}))

    def test_sums_above(self):
        self.assertRaises(TooMany, traced, Tent(TORUS), {0: 301, 1: 301, 2: 0})
        self.assertRaises(TooMany, traced, Tent(TORUS), {0: 200, 1: 200, 2: 202})
        self.assertRaises(TooMany, traced, Tent(CONE), {5: 601, 7: 0})
        self.assertRaises(TooMany, traced, Tent(CONE), {5: 602, 7: 0})
        self.assertRaises(TooMany, traced, Tent(TORUS), {0: TOP, 1: TOP, 2: 2})

    def test_each_number_counts_once(self):
        # Counted at each place or in each cloth the sum would be 1200.
        self.assertEqual(len(traced(Tent(BALL), {1: 300, 2: 0, 4: 300})), 600)

    def test_behind_the_refusals_of_numbers(self):
        self.assertRaises(NoCounts, traced, Tent(TORUS), {0: 400, 1: 400})
        self.assertRaises(NoCounts, traced, Tent(TORUS), {0: 400, 1: 400, 2: -2})
        self.assertRaises(NoCounts, traced, Tent(CONE), {5: 700, 7: 2})
        self.assertRaises(Uneven, traced, Tent(TORUS), {0: 400, 1: 400, 2: 1})
        self.assertRaises(Wide, traced, Tent(TORUS), {0: 400, 1: 800, 2: 2})

    def test_refusals_of_small_numbers(self):
        self.assertRaises(NoCounts, traced, Tent(TORUS), {})
        self.assertRaises(Uneven, traced, Tent(TORUS), {0: 1, 1: 1, 2: 1})
        self.assertRaises(Wide, traced, Tent(TORUS), {0: 2, 1: 0, 2: 0})


class KeepsNothingTest(unittest.TestCase):

    def test_what_is_handed_in_stays(self):
        tent, word, counts = Tent(TORUS), [0, 4, 2, 4], {2: 3, 1: 2, 0: 1}
        tally(tent, word)
        flow(tent, word)
        look_counts(tent, counts)
        led(tent, counts, 2)
        traced(tent, counts)
        self.assertEqual((word, list(counts.items())), ([0, 4, 2, 4], [(2, 3), (1, 2), (0, 1)]))
        self.assertEqual(tent.rows(), TORUS)

    def test_what_is_told_is_new(self):
        tent, word, counts = Tent(TORUS), [0, 4], {0: 3, 1: 3, 2: 0}
        tally(tent, word)[0] = 55
        tally(tent, word).clear()
        flow(tent, word)[0] = 55
        flow(tent, word).append(3)
        led(tent, counts, 2)[0] = 55
        led(tent, counts, 2).clear()
        told = traced(tent, counts)
        told[0].append(77)
        # The same thread told three times is three lists.
        self.assertEqual(told, [[0, 4, 77], [0, 4], [0, 4]])
        told.clear()
        self.assertEqual(counts, {0: 3, 1: 3, 2: 0})
        self.assertEqual(tally(tent, word), {0: 1, 1: 1, 2: 0})
        self.assertEqual(flow(tent, word), [1, -1, 0, -1, 1, 0])
        self.assertEqual(led(tent, counts, 2), {0: 3, 1: 3, 2: 6})
        self.assertEqual(traced(tent, counts), [[0, 4]] * 3)

    def test_changing_what_was_handed_in_changes_nothing_told(self):
        tent, word, counts = Tent(TORUS), [0, 4], {0: 1, 1: 1, 2: 0}
        told = [tally(tent, word), flow(tent, word), led(tent, counts, 2), traced(tent, counts)]
        word.clear()
        counts[0] = 9
        counts.clear()
        self.assertEqual(told, [{0: 1, 1: 1, 2: 0}, [1, -1, 0, -1, 1, 0], {0: 1, 1: 1, 2: 2}, [[0, 4]]])


if __name__ == "__main__":
    unittest.main()
