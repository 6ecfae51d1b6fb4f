"""Points 1 and 23: tents laid on one another."""

import itertools
import unittest

from tentloops.errors import NoPlace, NotAlike
from tentloops.exchange import exchanged
from tentloops.matching import carried, matched
from tentloops.rounds import shape
from tentloops.tents import Tent
from tentloops.words import plain, times
from oracles import lies_well, matched_by_trying, spots
from samples import (
    ALL, BALL, CONE, FLAP, HEAP, KITE, MIXED, POUCH, PRETZEL, TORUS, WAYS, band, free_seams, laid_otherwise,
    many_tents, scattered, wandered,
)

# Four cloths that are wound twice round TORUS: place 3k + i would lie on place 3(k % 2) + i.
TWICE = [(0, 1, 2), (3, 1, 2), (3, 4, 5), (0, 4, 5)]

# The torus sewn the other way around at seam 2: alike in all counts of seams, but not in what is sewn to what.
TURNED_OVER = [(0, 1, 2), (0, 2, 1)]


def apart(one, other):
    """Both tents as one of several pieces, the second under names that the first has not."""
    spare = [name for name in range(1000) if name not in spots(one)]
    others = dict(zip(sorted(spots(other)), spare))
    return one + [tuple(others[name] for name in row) for row in other]


def same_with_one_seam_sewn_otherwise(rows):
    """The tent with the second places of two of its seams exchanged."""
    names = [name for row in rows for name in row]
    pairs = [places for places in spots(rows).values() if len(places) == 2]
    one, other = pairs[0][1], pairs[-1][1]
    names[one], names[other] = names[other], names[one]
    return [tuple(names[k:k + 3]) for k in range(0, len(names), 3)]


class MatchedByHandTest(unittest.TestCase):

    def test_a_tent_on_itself(self):
        for rows in many_tents():
            self.assertEqual(matched(Tent(rows), Tent(rows)), list(range(3 * len(rows))))

    def test_a_cloth_turned(self):
        self.assertEqual(matched(Tent([(5, 5, 7)]), Tent([(5, 7, 5)])), [2, 0, 1])
        self.assertEqual(matched(Tent([(5, 5, 7)]), Tent([(7, 5, 5)])), [1, 2, 0])

    def test_names_do_not_matter(self):
        self.assertEqual(matched(Tent([(5, 5, 7)]), Tent([(7, 7, 5)])), [0, 1, 2])
        self.assertEqual(matched(Tent(TORUS), Tent([(8, 9, 0), (8, 9, 0)])), [0, 1, 2, 3, 4, 5])

    def test_cloths_renumbered(self):
        self.assertEqual(matched(Tent(KITE), Tent([(3, 0, 4), (0, 1, 2)])), [1, 2, 0, 5, 3, 4])
        # Cloth 0 of MIXED, with two rims, lies on cloth 2; cloth 2, with the locked seam, on cloth 0.
        other = [(9, 9, 8), (3, 8, 6), (2, 6, 1)]
        self.assertEqual(matched(Tent(MIXED), Tent(other)), [7, 8, 6, 3, 4, 5, 2, 0, 1])

    def test_a_flap_lies_in_three_ways_and_the_least_is_told(self):
        self.assertEqual(matched(Tent(FLAP), Tent([(9, 8, 7)])), [0, 1, 2])

    def test_the_least_of_several(self):
        # All three turns of both cloths of the torus fit.
        self.assertEqual(matched(Tent(TORUS), Tent([(0, 1, 2), (1, 2, 0)])), [0, 1, 2, 5, 3, 4])
        self.assertEqual(matched(Tent(BALL), Tent([(2, 4, 4), (1, 1, 2)])), [1, 2, 0, 5, 3, 4])

    def test_kinds_of_values(self):
        self.assertIs(type(matched(Tent(TORUS), Tent(TORUS))), list)
        self.assertIsNone(matched(Tent(TORUS), Tent(BALL)))

    def test_unlike_ones(self):
        for one, other in itertools.permutations([TORUS, KITE, CONE, BALL, MIXED, FLAP, POUCH, PRETZEL, HEAP], 2):
            self.assertIsNone(matched(Tent(one), Tent(other)))
        self.assertIsNone(matched(Tent(TORUS), Tent(TURNED_OVER)))
        self.assertIsNone(matched(Tent(TURNED_OVER), Tent(TORUS)))

    def test_unlike_counts_of_cloths(self):
        self.assertIsNone(matched(Tent(band(3)), Tent(band(4))))
        self.assertIsNone(matched(Tent(FLAP), Tent(apart(FLAP, FLAP))))
        self.assertIsNone(matched(Tent(apart(FLAP, FLAP)), Tent(FLAP)))

    def test_wound_several_times_round_is_not_laid(self):
        # As many cloths, but each place of the other is to be met once.
        self.assertIsNone(matched(Tent(TWICE), Tent(apart(TORUS, TORUS))))
        self.assertIsNone(matched(Tent(apart(TORUS, TORUS)), Tent(TWICE)))
        self.assertIsNone(matched(Tent(band(4)), Tent(apart(band(2), band(2)))))
        self.assertIsNone(matched(Tent(apart(band(2), band(2))), Tent(band(4))))
        self.assertIsNone(matched(Tent(apart(band(1), band(3))), Tent(apart(band(2), band(2)))))

    def test_not_with_the_other_side_up(self):
        # Around cloth 1 the rim comes behind seam 3, and in the other tent ahead of it.
        one = [(1, 1, 2), (2, 3, 4), (3, 5, 6)]
        self.assertIsNone(matched(Tent(one), Tent([(1, 1, 2), (2, 4, 3), (3, 5, 6)])))
        self.assertIsNone(matched(Tent(one), Tent([tuple(reversed(row)) for row in one])))


class PiecesTest(unittest.TestCase):

    def test_several_pieces(self):
        one = apart(TORUS, CONE)
        other = apart(CONE, TORUS)
        self.assertEqual(matched(Tent(one), Tent(other)), [3, 4, 5, 6, 7, 8, 0, 1, 2])

    def test_alike_pieces_take_the_least_that_is_left(self):
        one = apart(apart(CONE, TORUS), CONE)
        # Cones at cloths 2 and 3, the torus at cloths 0 and 1.
        other = apart(apart(TORUS, CONE), [(8, 9, 9)])
        self.assertEqual(matched(Tent(one), Tent(other)), [6, 7, 8, 0, 1, 2, 3, 4, 5, 10, 11, 9])

    def test_pieces_whose_cloths_are_mixed(self):
        # Cloths 0 and 2 are one torus, 1 and 3 the other; there it is 0 and 3, 1 and 2.
        one = [(0, 1, 2), (3, 4, 5), (0, 1, 2), (3, 4, 5)]
        other = [(0, 1, 2), (3, 4, 5), (3, 4, 5), (0, 1, 2)]
        self.assertEqual(matched(Tent(one), Tent(other)), [0, 1, 2, 3, 4, 5, 9, 10, 11, 6, 7, 8])

    def test_unlike_piece_sizes(self):
        self.assertIsNone(matched(Tent(apart(band(1), band(3))), Tent(apart(band(2), band(2)))))
        self.assertIsNone(matched(Tent(apart(TORUS, POUCH)), Tent(apart(PRETZEL[:2], band(3)))))
        self.assertIsNotNone(matched(Tent(apart(band(1), band(3))), Tent(apart(band(3), band(1)))))

    def test_as_many_pieces_of_each_sort(self):
        two = apart(apart(CONE, CONE), FLAP)
        one = apart(apart(CONE, FLAP), FLAP)
        self.assertIsNone(matched(Tent(two), Tent(one)))
        self.assertIsNone(matched(Tent(one), Tent(two)))


class MatchedTest(unittest.TestCase):

    def test_cloths_turned_and_renumbered(self):
        for number, rows in enumerate(many_tents()):
            for seed in range(3):
                other = laid_otherwise(rows, 10 * number + seed)
                told = matched(Tent(rows), Tent(other))
                self.assertIsNotNone(told)
                self.assertTrue(lies_well(rows, other, told))

    def test_the_least_of_all_that_lie_well(self):
        tents = [rows for rows in many_tents() if len(rows) <= 6] + [TWICE, apart(TORUS, TORUS), apart(CONE, CONE)]
        for number, rows in enumerate(tents):
            for seed in range(3):
                other = laid_otherwise(rows, 20 * number + seed)
                self.assertEqual(matched(Tent(rows), Tent(other)), matched_by_trying(rows, other))

    def test_small_tents_against_each_other(self):
        tents = [rows for rows in many_tents() if len(rows) in (2, 3)]
        tents += [exchanged(Tent(rows), seam, way).rows() for rows in (TORUS, BALL, MIXED, POUCH, KITE)
                  for seam in free_seams(Tent(rows)) for way in WAYS]
        alike = 0
        for one, other in itertools.product(tents, repeat=2):
            told = matched(Tent(one), Tent(other))
            self.assertEqual(told, matched_by_trying(one, other))
            alike += told is not None
        # Some are alike and some are not.
        self.assertTrue(len(tents) < alike < len(tents) ** 2)

    def test_two_that_differ_in_one_seam(self):
        unlike = 0
        for number, rows in enumerate([MIXED, POUCH, PRETZEL, BALL, band(5), scattered(7, 8), scattered(8, 9)]):
            other = same_with_one_seam_sewn_otherwise(rows)
            told = matched(Tent(rows), Tent(laid_otherwise(other, number)))
            self.assertEqual(told, matched_by_trying(rows, laid_otherwise(other, number)))
            unlike += told is None
        self.assertGreater(unlike, 3)

    def test_a_seam_cut_open(self):
        for rows in (TORUS, POUCH, MIXED, BALL, band(40), scattered(61, 40)):
            sewn = [places for places in spots(rows).values() if len(places) == 2]
            place = sewn[-1][1]
            names = [name for row in rows for name in row]
            names[place] = 8999
            cut = [tuple(names[k:k + 3]) for k in range(0, len(names), 3)]
            self.assertIsNone(matched(Tent(rows), Tent(cut)))
            self.assertIsNone(matched(Tent(cut), Tent(rows)))
            self.assertEqual(matched(Tent(cut), Tent(cut)), list(range(len(names))))

    def test_forty_cloths(self):
        for rows in (band(40), scattered(60, 40), scattered(63, 40), [(k, 100 + k, 200 + k) for k in range(40)]):
            for seed in range(4):
                other = laid_otherwise(rows, seed)
                told = matched(Tent(rows), Tent(other))
                self.assertTrue(lies_well(rows, other, told))
                self.assertEqual(told[0], min(goal for goal in told if lies_from(rows, other, goal)))
            self.assertIsNone(matched(Tent(rows), Tent(same_with_one_seam_sewn_otherwise(scattered(62, 40)))))

    def test_forty_cloths_of_many_alike_pieces(self):
        cones = [(2 * k, 2 * k, 2 * k + 1) for k in range(40)]
        self.assertEqual(matched(Tent(cones), Tent(cones)), list(range(120)))
        other = cones[:39] + [(9000, 9001, 9002)]
        self.assertIsNone(matched(Tent(cones), Tent(other)))
        self.assertIsNone(matched(Tent(other), Tent(cones)))

    def test_what_is_laid_has_the_same_shape(self):
        for number, rows in enumerate(many_tents()):
            other = laid_otherwise(rows, number)
            self.assertEqual(sorted(shape(Tent(rows))), sorted(shape(Tent(other))))


def lies_from(rows, other, goal):
    """Whether place 0 can lie on this goal: told by the tents with that cloth put first and turned."""
    names = [name for row in other for name in row]
    cloth, by = goal // 3, goal % 3
    first = names[3 * cloth:3 * cloth + 3]
    ahead = [tuple(first[by:] + first[:by])] + [row for k, row in enumerate(other) if k != cloth]
    return matched(Tent(rows), Tent(ahead))[0] == 0


class CarriedTest(unittest.TestCase):

    def test_by_hand(self):
        self.assertEqual(carried(Tent([(5, 5, 7)]), Tent([(5, 7, 5)]), [0, 0]), [2, 2])
        self.assertEqual(carried(Tent([(5, 5, 7)]), Tent([(5, 7, 5)]), [1]), [0])

    def test_a_row_that_is_no_thread(self):
        self.assertEqual(carried(Tent([(5, 5, 7)]), Tent([(5, 7, 5)]), [2, 1, 0, 2]), [1, 0, 2, 1])
        self.assertEqual(carried(Tent(FLAP), Tent(FLAP), [0, 1, 2]), [0, 1, 2])

    def test_the_empty_row(self):
        self.assertEqual(carried(Tent(TORUS), Tent(TORUS), []), [])
        self.assertRaises(NotAlike, carried, Tent(TORUS), Tent(BALL), [])

    def test_by_the_list(self):
        for number, rows in enumerate(many_tents()):
            one, other = Tent(rows), Tent(laid_otherwise(rows, 40 + number))
            goals = matched(one, other)
            self.assertEqual(carried(one, other, list(range(3 * len(rows)))), goals)
            for word in wandered(rows, number)[:3]:
                told = carried(one, other, word)
                self.assertEqual(told, [goals[place] for place in word])
                self.assertIs(plain(other, told), True)
                self.assertEqual(times(other, told), times(one, word))

    def test_two_thousand_places(self):
        other = Tent([(0, 1, 2), (1, 2, 0)])
        self.assertEqual(carried(Tent(TORUS), other, [0, 4] * 1000), [0, 3] * 1000)

    def test_not_alike(self):
        for one, other in itertools.permutations([TORUS, KITE, CONE, BALL, MIXED, FLAP], 2):
            for word in ([], [0], [0, 1], [2, 1]):
                self.assertRaises(NotAlike, carried, Tent(one), Tent(other), word)

    def test_no_place_behind_not_alike(self):
        for place in (-1, 6, 10 ** 5000, -10 ** 5000):
            self.assertRaises(NoPlace, carried, Tent(TORUS), Tent(TORUS), [0, place])
            self.assertRaises(NotAlike, carried, Tent(TORUS), Tent(BALL), [0, place])


class KeepsNothingTest(unittest.TestCase):

    def test_what_is_handed_in_stays(self):
        one, other, word = Tent(TORUS), Tent(TORUS), [0, 4]
        told = carried(one, other, word)
        self.assertEqual((word, one.rows(), other.rows()), ([0, 4], TORUS, TORUS))
        word[0] = 5
        self.assertEqual(told, [0, 4])

    def test_what_is_told_is_new(self):
        for rows in ALL:
            one, other = Tent(rows), Tent(rows)
            matched(one, other).clear()
            matched(one, other)[0] = 99
            carried(one, other, [0, 1]).append(5)
            self.assertEqual(matched(one, other), list(range(3 * len(rows))))
            self.assertEqual(carried(one, other, [0, 1]), [0, 1])


if __name__ == "__main__":
    unittest.main()
