"""Points 1 and 20 to 22: fractions, fractions behind exchanges, and the worth of a thread."""

import math
import unittest
from fractions import Fraction

from tentloops.errors import Locked, NoFraction, NoSeam, NoThread, NoWorths, Rim
from tentloops.exchange import driven, exchanged
from tentloops.pulling import pulled, pulled_along
from tentloops.stretch import even_worths, fraction, stretched, worth
from tentloops.tents import Tent
from tentloops.words import backward, turned
from oracles import sewn_by_words, stretched_by_words, worth_by_words
from samples import (
    ALL, BALL, CONE, FLAP, HEAP, KITE, MIXED, POUCH, PRETZEL, TORUS, WAYS, band, dealt_moves, dealt_worths, free_seams,
    many_tents, wandered,
)

GREAT = 10 ** 5000
SMALL = [TORUS, BALL, MIXED, POUCH, PRETZEL, KITE, HEAP, [(1, 4, 2), (2, 4, 1)], [(0, 0, 1), (1, 2, 3)]]


def each_thread():
    """Tents of all sorts with fractions and a thread: (rows, worths, word)."""
    for number, rows in enumerate(many_tents()):
        for word in wandered(rows, 2000 + number, 40)[:3]:
            yield rows, dealt_worths(rows, 3000 + number), word


class FractionTest(unittest.TestCase):

    def test_by_hand(self):
        self.assertEqual(fraction(6, 4), (3, 2))
        self.assertEqual(fraction(4, 6), (2, 3))
        self.assertEqual(fraction(1, 1), (1, 1))
        self.assertEqual(fraction(7, 7), (1, 1))
        self.assertEqual(fraction(1, 9), (1, 9))
        self.assertEqual(fraction(9, 1), (9, 1))
        self.assertIs(type(fraction(6, 4)), tuple)

    def test_all_small_ones(self):
        for top in range(1, 41):
            for bottom in range(1, 41):
                many = math.gcd(top, bottom)
                self.assertEqual(fraction(top, bottom), (top // many, bottom // many))

    def test_parts_of_thousands_of_figures(self):
        self.assertTrue(fraction(6 * GREAT, 4 * GREAT) == (3, 2))
        self.assertTrue(fraction(GREAT, 1) == (GREAT, 1))
        self.assertTrue(fraction(GREAT + 1, GREAT) == (GREAT + 1, GREAT))
        one, other = 7 ** 4000, 3 ** 9000
        self.assertTrue(fraction(one * 10 ** 3000, other * 10 ** 3000) == (one, other))

    def test_no_fraction(self):
        for top, bottom in ((0, 1), (1, 0), (0, 0), (-1, 1), (1, -1), (-1, -1), (-2, -4), (-GREAT, 1), (1, -GREAT)):
            self.assertRaises(NoFraction, fraction, top, bottom)
        self.assertRaises(NoFraction, fraction, GREAT, 0)
        self.assertRaises(NoFraction, fraction, 0, GREAT)


class EvenWorthsTest(unittest.TestCase):

    def test_by_hand(self):
        self.assertEqual(even_worths(Tent(TORUS)), {0: (1, 1), 1: (1, 1), 2: (1, 1)})
        self.assertEqual(even_worths(Tent(KITE)), {0: (1, 1)})
        self.assertEqual(even_worths(Tent(FLAP)), {})
        # A locked seam is sewn.
        self.assertEqual(even_worths(Tent(CONE)), {5: (1, 1)})
        self.assertEqual(even_worths(Tent(MIXED)), {6: (1, 1), 8: (1, 1), 9: (1, 1)})

    def test_all_sewn_seams(self):
        for rows in many_tents():
            told = even_worths(Tent(rows))
            self.assertIs(type(told), dict)
            self.assertEqual(told, {name: (1, 1) for name in sewn_by_words(rows)})


class StretchedTest(unittest.TestCase):

    def test_rims_have_none(self):
        self.assertEqual(stretched(Tent(KITE), {0: (3, 5)}, 0), {0: (5, 3)})

    def test_one_of_the_four_is_sewn(self):
        # Seam 8 is at d, the three others are rims: it is multiplied by 2/3 / (5/3).
        worths = {6: (2, 3), 8: (7, 11), 9: (13, 1)}
        self.assertEqual(stretched(Tent(MIXED), worths, 6), {6: (3, 2), 8: (14, 55), 9: (13, 1)})

    def test_each_of_the_four_places(self):
        # Seam 6 of the pretzel lies between (5, 1, 6) and (6, 2, 7): a at seam 5, b at 1, c at 2, d at 7.
        worths = {**{name: (1, 1) for name in range(9)}, 6: (2, 3)}
        told = stretched(Tent(PRETZEL), worths, 6)
        self.assertEqual((told[5], told[1], told[2], told[7]), ((5, 3), (2, 5), (5, 3), (2, 5)))
        self.assertEqual(told[6], (3, 2))
        self.assertEqual([told[name] for name in (0, 3, 4, 8)], [(1, 1)] * 4)

    def test_a_seam_at_several_of_the_four_places(self):
        # On the torus seam 1 is at a and c, seam 2 at b and d.
        told = stretched(Tent(TORUS), {0: (1, 1), 1: (1, 1), 2: (1, 1)}, 0)
        self.assertEqual(told, {0: (1, 1), 1: (4, 1), 2: (1, 4)})
        told = stretched(Tent(TORUS), {0: (2, 3), 1: (1, 2), 2: (5, 1)}, 0)
        self.assertEqual(told, {0: (3, 2), 1: (25, 18), 2: (4, 5)})
        # In the ball the locked seams 1 and 4 are each at one of a and c and at one of b and d.
        self.assertEqual(stretched(Tent(BALL), {1: (1, 1), 2: (2, 3), 4: (9, 4)}, 2), {1: (2, 3), 2: (3, 2), 4: (3, 2)})

    def test_a_locked_seam_in_the_square(self):
        worths = {6: (5, 7), 8: (2, 3), 9: (1, 4)}
        self.assertEqual(stretched(Tent(MIXED), worths, 8), stretched_by_words(MIXED, worths, 8))
        self.assertEqual(stretched(Tent(MIXED), worths, 8)[9], (1, 6))

    def test_lowest_terms_throughout(self):
        # Seam 9 is away from seam 6's square; it stays, and is told in its lowest terms.
        told = stretched(Tent(MIXED), {6: (4, 6), 8: (14, 22), 9: (26, 2)}, 6)
        self.assertEqual(told, {6: (3, 2), 8: (14, 55), 9: (13, 1)})
        self.assertTrue(all(type(pair) is tuple for pair in told.values()))

    def test_against_the_words(self):
        for number, rows in enumerate(many_tents()):
            worths = dealt_worths(rows, number)
            for seam in free_seams(Tent(rows))[:8]:
                self.assertEqual(stretched(Tent(rows), worths, seam), stretched_by_words(rows, worths, seam))

    def test_the_same_exchange_leads_back(self):
        for number, rows in enumerate(many_tents()):
            worths = {name: fraction(*pair) for name, pair in dealt_worths(rows, 70 + number).items()}
            for seam in free_seams(Tent(rows))[:8]:
                for way in WAYS:
                    there = stretched(Tent(rows), worths, seam)
                    self.assertEqual(stretched(exchanged(Tent(rows), seam, way), there, seam), worths)

    def test_parts_of_thousands_of_figures(self):
        told = stretched(Tent(TORUS), {0: (GREAT, 3 * GREAT), 1: (GREAT, 1), 2: (1, GREAT)}, 0)
        self.assertTrue(told == {0: (3, 1), 1: (16 * GREAT, 9), 2: (1, 16 * GREAT)})
        told = stretched(Tent(KITE), {0: (GREAT + 1, GREAT)}, 0)
        self.assertTrue(told == {0: (GREAT, GREAT + 1)})

    def test_no_worths(self):
        good = {6: (1, 1), 8: (1, 1), 9: (1, 1)}
        for worths in ({}, {6: (1, 1)}, {6: (1, 1), 8: (1, 1)}, {**good, 1: (1, 1)}, {**good, 77: (1, 1)},
                       {6: (1, 1), 8: (1, 1), 1: (1, 1)}, {**good, -1: (1, 1)}):
            self.assertRaises(NoWorths, stretched, Tent(MIXED), worths, 6)
            # A part below 1 comes behind.
            self.assertRaises(NoWorths, stretched, Tent(MIXED), {**worths, 6: (0, 1), 78: (1, 1)}, 6)
        self.assertRaises(NoWorths, stretched, Tent(MIXED), {6: (0, 0), 8: (1, 1)}, 6)

    def test_no_fraction(self):
        for pair in ((0, 1), (1, 0), (-1, 1), (1, -1), (-3, -3), (-GREAT, GREAT)):
            for name in (6, 8, 9):
                worths = {6: (1, 1), 8: (1, 1), 9: (1, 1), name: pair}
                self.assertRaises(NoFraction, stretched, Tent(MIXED), worths, 6)

    def test_refusals_of_the_seam_go_ahead(self):
        for worths in ({6: (1, 1), 8: (1, 1), 9: (1, 1)}, {}, {6: (0, 1), 8: (1, 1), 9: (1, 1)}, {1: (0, 0)}):
            for seam in (77, -1, 10000):
                self.assertRaises(NoSeam, stretched, Tent(MIXED), worths, seam)
            for seam in (1, 2, 3):
                self.assertRaises(Rim, stretched, Tent(MIXED), worths, seam)
            self.assertRaises(Locked, stretched, Tent(MIXED), worths, 9)


class WorthTest(unittest.TestCase):

    def test_by_hand(self):
        # R then L with all even: 1 0 / 1 1, then 1 1 / 1 2: the sum is 3.
        self.assertEqual(worth(Tent(TORUS), even_worths(Tent(TORUS)), [0, 4]), (9, 1))
        # One turn alone makes the sum 2.
        self.assertEqual(worth(Tent(CONE), {5: (1, 1)}, [0]), (4, 1))
        self.assertEqual(worth(Tent(CONE), {5: (2, 3)}, [0]), (25, 6))
        self.assertEqual(worth(Tent(CONE), {5: (3, 2)}, [0]), (25, 6))
        self.assertIs(type(worth(Tent(CONE), {5: (2, 3)}, [0])), tuple)

    def test_the_parts_are_not_changed_for_each_other(self):
        # Crossing 0 by (2, 3), right: 2 0 / 3 3; crossing 1 by (5, 7), left: 10 10 / 15 36: 46 * 46 over 210.
        self.assertEqual(worth(Tent(TORUS), {0: (2, 3), 1: (5, 7), 2: (11, 13)}, [0, 4]), (1058, 105))

    def test_against_the_words(self):
        for rows, worths, word in each_thread():
            self.assertEqual(worth(Tent(rows), worths, word), worth_by_words(rows, worths, word))

    def test_fractions_handed_in_need_no_lowest_terms(self):
        for rows, worths, word in each_thread():
            more = {name: (6 * top, 6 * bottom) for name, (top, bottom) in worths.items()}
            told = worth(Tent(rows), more, word)
            self.assertEqual(told, worth(Tent(rows), worths, word))
            self.assertEqual(math.gcd(*told), 1)

    def test_never_below_four(self):
        for rows, worths, word in each_thread():
            top, bottom = worth(Tent(rows), worths, word)
            self.assertGreaterEqual(top, 4 * bottom)

    def test_the_same_wherever_it_begins_and_either_way(self):
        for rows, worths, word in each_thread():
            tent, told = Tent(rows), worth(Tent(rows), worths, word)
            for other in (turned(word, 1), turned(word, -3), backward(tent, word)):
                self.assertEqual(worth(tent, worths, other), told)

    def test_the_same_behind_each_exchange(self):
        tried = 0
        for rows, worths, word in each_thread():
            tent, told = Tent(rows), worth(Tent(rows), worths, word)
            for seam in free_seams(tent)[:5]:
                for way in WAYS:
                    behind = stretched(tent, worths, seam)
                    self.assertEqual(worth(exchanged(tent, seam, way), behind, pulled(tent, seam, way, word)), told)
                    tried += 1
        self.assertGreater(tried, 500)

    def test_the_same_behind_rows_of_exchanges(self):
        for number, rows in enumerate(SMALL):
            for word in wandered(rows, number, 30)[:3]:
                moves = dealt_moves(rows, 60 + number, 8)
                worths = dealt_worths(rows, 90 + number)
                behind = worths
                for k, (seam, way) in enumerate(moves):
                    behind = stretched(driven(Tent(rows), moves[:k]), behind, seam)
                there = worth(driven(Tent(rows), moves), behind, pulled_along(Tent(rows), moves, word))
                self.assertEqual(there, worth(Tent(rows), worths, word))

    def test_put_several_times_behind_itself(self):
        for rows, worths, word in each_thread():
            once = Fraction(*worth(Tent(rows), worths, word))
            self.assertEqual(Fraction(*worth(Tent(rows), worths, word * 2)), (once - 2) ** 2)
            self.assertEqual(Fraction(*worth(Tent(rows), worths, word * 3)), once * (once - 3) ** 2)

    def test_parts_of_thousands_of_figures(self):
        self.assertTrue(worth(Tent(CONE), {5: (GREAT, 1)}, [0]) == ((GREAT + 1) ** 2, GREAT))
        self.assertTrue(worth(Tent(CONE), {5: (GREAT, GREAT)}, [0]) == (4, 1))
        self.assertTrue(worth(Tent(CONE), {5: (2 * GREAT, 3 * GREAT)}, [0]) == (25, 6))
        worths = {0: (7 ** 3000, 3 ** 5000), 1: (GREAT + 1, 2), 2: (3, GREAT)}
        told = worth(Tent(TORUS), worths, [0, 5, 0, 4])
        self.assertTrue(told == worth_by_words(TORUS, worths, [0, 5, 0, 4]))

    def test_two_thousand_places(self):
        worths = {0: (2, 3), 1: (5, 7), 2: (6, 35)}
        for word in ([0, 4] * 1000, [0, 5, 0, 4] * 500):
            self.assertTrue(worth(Tent(TORUS), worths, word) == worth_by_words(TORUS, worths, word))

    def test_round_a_band_of_forty(self):
        word = [3 * k + 1 for k in range(40)]
        self.assertEqual(worth(Tent(band(40)), even_worths(Tent(band(40))), word), (4, 1))

    def test_no_thread_goes_ahead(self):
        for worths in (even_worths(Tent(TORUS)), {}, {0: (0, 1), 1: (1, 1), 2: (1, 1)}, {9: (0, 0)}):
            for word in ([], [0], [0, 3], [0, 4, 2], [6], [-1, 4]):
                self.assertRaises(NoThread, worth, Tent(TORUS), worths, word)
        self.assertRaises(NoThread, worth, Tent(CONE), {}, [2])

    def test_no_worths_goes_ahead_of_no_fraction(self):
        for worths in ({}, {0: (1, 1), 1: (1, 1)}, {0: (0, 1), 1: (1, 1)},
                       {0: (1, 1), 1: (1, 1), 2: (1, 1), 3: (0, 1)}):
            self.assertRaises(NoWorths, worth, Tent(TORUS), worths, [0, 4])
        # A rim has none.
        self.assertRaises(NoWorths, worth, Tent(CONE), {5: (1, 1), 7: (1, 1)}, [0])

    def test_no_fraction(self):
        # Also for a seam that the thread does not cross.
        for name in (0, 1, 2):
            for pair in ((0, 1), (1, 0), (-1, 1), (1, -1), (-1, -1)):
                self.assertRaises(NoFraction, worth, Tent(TORUS), {**even_worths(Tent(TORUS)), name: pair}, [0, 4])


class KeepsNothingTest(unittest.TestCase):

    def test_what_is_handed_in_stays(self):
        tent, worths, word = Tent(TORUS), {2: (4, 6), 1: (2, 2), 0: (3, 9)}, [0, 4]
        stretched(tent, worths, 0)
        worth(tent, worths, word)
        self.assertEqual(list(worths.items()), [(2, (4, 6)), (1, (2, 2)), (0, (3, 9))])
        self.assertEqual((word, tent.rows()), ([0, 4], TORUS))

    def test_what_is_told_is_new(self):
        for rows in ALL:
            tent = Tent(rows)
            worths = even_worths(tent)
            even_worths(tent).clear()
            self.assertEqual(even_worths(tent), worths)
            for seam in free_seams(tent):
                wanted = stretched(tent, worths, seam)
                stretched(tent, worths, seam).clear()
                self.assertEqual(stretched(tent, worths, seam), wanted)
                self.assertEqual(worths, even_worths(tent))

    def test_changing_what_was_handed_in_changes_nothing_told(self):
        tent, worths = Tent(KITE), {0: (3, 5)}
        told = stretched(tent, worths, 0)
        worths[0] = (9, 9)
        worths.clear()
        self.assertEqual(told, {0: (5, 3)})


if __name__ == "__main__":
    unittest.main()
