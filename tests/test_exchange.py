"""Points 1, 4, 5 and 6: exchanges."""

import unittest

from tentloops.errors import Locked, NoPlace, NoSeam, NoWay, Rim
from tentloops.exchange import contrary, driven, exchanged, moved, square, undoing
from tentloops.tents import Tent
from samples import ALL, BALL, CONE, KITE, MIXED, TORUS, WAYS, band, free_seams, many_tents

WRONG_WAYS = ("", "Left", "RIGHT", "l", "up", " left", "left ", "leftright")


def rolled(row, seam):
    """The row begun with the seam."""
    at = row.index(seam)
    return row[at:] + row[:at]


class SquareTest(unittest.TestCase):

    def test_by_hand(self):
        self.assertEqual(square(Tent(KITE), 0), (1, 2, 5, 3))
        self.assertEqual(square(Tent(TORUS), 0), (1, 2, 4, 5))
        self.assertEqual(square(Tent(TORUS), 1), (2, 0, 5, 3))
        self.assertEqual(square(Tent(TORUS), 2), (0, 1, 3, 4))
        self.assertEqual(square(Tent(BALL), 2), (0, 1, 4, 5))
        self.assertEqual(square(Tent(MIXED), 6), (1, 2, 3, 4))
        self.assertEqual(square(Tent(MIXED), 8), (5, 3, 7, 8))
        self.assertEqual(square(Tent(band(40)), 39), (1, 2, 119, 117))

    def test_it_is_a_tuple(self):
        self.assertIs(type(square(Tent(KITE), 0)), tuple)

    def test_refusals(self):
        self.assertRaises(NoSeam, square, Tent(KITE), 5)
        self.assertRaises(NoSeam, square, Tent(KITE), -1)
        self.assertRaises(Rim, square, Tent(KITE), 1)
        self.assertRaises(Rim, square, Tent(CONE), 7)
        self.assertRaises(Locked, square, Tent(CONE), 5)
        self.assertRaises(Locked, square, Tent(MIXED), 9)


class MovedTest(unittest.TestCase):

    def moves(self, rows, seam, way):
        tent = Tent(rows)
        return [moved(tent, seam, way, place) for place in range(3 * len(rows))]

    def test_left_by_hand(self):
        self.assertEqual(self.moves(KITE, 0, "left"), [0, 3, 1, 5, 4, 2])
        self.assertEqual(self.moves(TORUS, 1, "left"), [2, 1, 3, 5, 4, 0])
        self.assertEqual(self.moves(MIXED, 8, "left"), [0, 1, 2, 5, 4, 8, 6, 3, 7])

    def test_right_by_hand(self):
        self.assertEqual(self.moves(KITE, 0, "right"), [0, 2, 5, 1, 4, 3])
        self.assertEqual(self.moves(TORUS, 1, "right"), [5, 1, 0, 2, 4, 3])
        self.assertEqual(self.moves(MIXED, 8, "right"), [0, 1, 2, 7, 4, 3, 6, 8, 5])

    def test_by_the_square(self):
        for rows in many_tents():
            tent = Tent(rows)
            for seam in free_seams(tent):
                a, b, c, d = square(tent, seam)
                told = self.moves(rows, seam, "left")
                self.assertEqual([told[a], told[d], told[c], told[b]], [d, c, b, a])
                told = self.moves(rows, seam, "right")
                self.assertEqual([told[a], told[b], told[c], told[d]], [b, c, d, a])

    def test_all_others_stay(self):
        for rows in many_tents():
            tent = Tent(rows)
            for seam in free_seams(tent):
                for place in set(range(3 * len(rows))) - set(square(tent, seam)):
                    self.assertEqual([moved(tent, seam, way, place) for way in WAYS], [place, place])

    def test_no_place_comes_last(self):
        for place in (-1, 6, 100):
            self.assertRaises(NoPlace, moved, Tent(KITE), 0, "left", place)
            self.assertRaises(NoPlace, moved, Tent(KITE), 0, "right", place)
            self.assertRaises(Rim, moved, Tent(KITE), 1, "left", place)
            self.assertRaises(NoSeam, moved, Tent(KITE), 9, "left", place)
            self.assertRaises(NoWay, moved, Tent(KITE), 0, "up", place)
        self.assertRaises(Locked, moved, Tent(CONE), 5, "right", 3)
        self.assertRaises(NoPlace, moved, Tent(KITE), 0, "left", -6)


class ExchangedTest(unittest.TestCase):

    def test_left_by_hand(self):
        self.assertEqual(exchanged(Tent(KITE), 0, "left").rows(), [(0, 2, 4), (1, 0, 3)])
        self.assertEqual(exchanged(Tent(MIXED), 8, "left").rows(), [(6, 1, 2), (9, 8, 3), (8, 9, 6)])

    def test_right_by_hand(self):
        self.assertEqual(exchanged(Tent(KITE), 0, "right").rows(), [(0, 3, 1), (4, 0, 2)])
        self.assertEqual(exchanged(Tent(MIXED), 8, "right").rows(), [(6, 1, 2), (6, 8, 9), (8, 3, 9)])

    def test_square_with_shared_names(self):
        for way in WAYS:
            self.assertEqual(exchanged(Tent(TORUS), 0, way).rows(), [(0, 2, 1), (0, 2, 1)])
        # Each of the two locked seams becomes a free one between the cloths.
        self.assertEqual(exchanged(Tent(BALL), 2, "left").rows(), [(1, 4, 2), (2, 4, 1)])
        self.assertEqual(exchanged(Tent(BALL), 2, "right").rows(), [(4, 1, 2), (2, 1, 4)])
        self.assertEqual(exchanged(Tent([(1, 4, 2), (2, 4, 1)]), 2, "left").rows(), [(4, 4, 2), (2, 1, 1)])

    def test_it_is_a_tent(self):
        self.assertIsInstance(exchanged(Tent(KITE), 0, "left"), Tent)

    def test_each_name_goes_where_its_place_moves(self):
        for rows in many_tents():
            tent = Tent(rows)
            for seam in free_seams(tent):
                for way in WAYS:
                    behind = exchanged(tent, seam, way)
                    self.assertEqual(behind.size(), tent.size())
                    for place in range(3 * len(rows)):
                        self.assertEqual(behind.seam_at(moved(tent, seam, way, place)), tent.seam_at(place))

    def test_the_seam_goes_the_other_way_across_its_square(self):
        for rows in many_tents():
            tent = Tent(rows)
            for seam in free_seams(tent):
                first, second = [place // 3 for place in tent.places(seam)]
                s, x, y = rolled(rows[first], seam)
                s, u, v = rolled(rows[second], seam)
                left = exchanged(tent, seam, "left").rows()
                right = exchanged(tent, seam, "right").rows()
                self.assertEqual([rolled(left[k], s) for k in (first, second)], [(s, y, u), (s, v, x)])
                self.assertEqual([rolled(right[k], s) for k in (first, second)], [(s, v, x), (s, y, u)])

    def test_left_and_right_undo_each_other(self):
        for rows in many_tents():
            tent = Tent(rows)
            for seam in free_seams(tent):
                for way, other in (WAYS, WAYS[::-1]):
                    behind = exchanged(tent, seam, way)
                    self.assertEqual(exchanged(behind, seam, other).rows(), rows)
                    for place in range(3 * len(rows)):
                        there = moved(tent, seam, way, place)
                        self.assertEqual(moved(behind, seam, other, there), place)

    def test_refusals_in_their_order(self):
        for way in WRONG_WAYS:
            for rows, seam in ((KITE, 0), (KITE, 9), (KITE, 1), (CONE, 5)):
                self.assertRaises(NoWay, exchanged, Tent(rows), seam, way)
                self.assertRaises(NoWay, moved, Tent(rows), seam, way, 0)
        for way in WAYS:
            self.assertRaises(NoSeam, exchanged, Tent(KITE), 9, way)
            self.assertRaises(NoSeam, exchanged, Tent(KITE), -1, way)
            self.assertRaises(Rim, exchanged, Tent(KITE), 4, way)
            self.assertRaises(Locked, exchanged, Tent(CONE), 5, way)
            self.assertRaises(NoSeam, moved, Tent(KITE), 9, way, 0)
            self.assertRaises(Rim, moved, Tent(KITE), 4, way, 0)
            self.assertRaises(Locked, moved, Tent(CONE), 5, way, 0)


class RowsOfExchangesTest(unittest.TestCase):

    def test_contrary(self):
        self.assertEqual((contrary("left"), contrary("right")), ("right", "left"))
        for way in WRONG_WAYS:
            self.assertRaises(NoWay, contrary, way)

    def test_empty_row(self):
        for rows in ALL:
            self.assertEqual(driven(Tent(rows), []).rows(), rows)
        self.assertEqual(undoing([]), [])

    def test_driven_one_by_one(self):
        self.assertEqual(driven(Tent(KITE), [(0, "left")]).rows(), [(0, 2, 4), (1, 0, 3)])
        self.assertEqual(driven(Tent(KITE), [(0, "left"), (0, "left")]).rows(), [(0, 4, 3), (2, 0, 1)])
        self.assertEqual(driven(Tent(KITE), [(0, "left")] * 4).rows(), KITE)
        self.assertIsInstance(driven(Tent(KITE), [(0, "right")]), Tent)

    def test_each_in_the_tent_as_it_is_by_then(self):
        # Seam 1 is locked at first and free behind the exchange of seam 2.
        self.assertRaises(Locked, driven, Tent(BALL), [(1, "left")])
        self.assertEqual(driven(Tent(BALL), [(2, "left"), (1, "left")]).rows(), [(1, 2, 2), (4, 4, 1)])
        # Behind that, seams 2 and 4 are locked.
        self.assertRaises(Locked, driven, Tent(BALL), [(2, "left"), (1, "left"), (2, "left")])

    def test_of_two_refusals_the_earlier_exchange_has_its_own(self):
        self.assertRaises(NoSeam, driven, Tent(KITE), [(0, "left"), (9, "left"), (0, "up")])
        self.assertRaises(Rim, driven, Tent(KITE), [(1, "left"), (9, "left")])
        self.assertRaises(NoWay, driven, Tent(KITE), [(0, "left"), (9, "up")])
        self.assertRaises(Locked, driven, Tent(CONE), [(5, "left"), (7, "up")])

    def test_undoing(self):
        moves = [(3, "left"), (4, "right"), (3, "right")]
        self.assertEqual(undoing(moves), [(3, "left"), (4, "left"), (3, "right")])
        self.assertIs(type(undoing(moves)), list)
        self.assertTrue(all(type(pair) is tuple for pair in undoing(moves)))

    def test_undoing_refuses(self):
        for way in WRONG_WAYS:
            self.assertRaises(NoWay, undoing, [(0, way)])
            self.assertRaises(NoWay, undoing, [(0, "left"), (0, way), (0, "right")])

    def test_undoing_leads_back(self):
        for rows in many_tents():
            tent = Tent(rows)
            moves = []
            for step in range(12):
                seams = free_seams(tent)
                if seams:
                    moves.append((seams[(7 * step + 3) % len(seams)], WAYS[step * step % 3 % 2]))
                    tent = exchanged(tent, *moves[-1])
            self.assertEqual(driven(Tent(rows), moves).rows(), tent.rows())
            self.assertEqual(driven(tent, undoing(moves)).rows(), rows)


class KeepsNothingTest(unittest.TestCase):

    def test_the_tent_stays_as_it_was(self):
        tent = Tent(TORUS)
        square(tent, 0)
        moved(tent, 0, "left", 1)
        exchanged(tent, 0, "left")
        driven(tent, [(0, "left"), (1, "right")])
        self.assertEqual(tent.rows(), TORUS)
        self.assertEqual([tent.mate(p) for p in range(6)], [3, 4, 5, 0, 1, 2])
        self.assertEqual([tent.seam_at(p) for p in range(6)], [0, 1, 2, 0, 1, 2])

    def test_moves_handed_in_stay(self):
        moves = [(0, "left"), (0, "left"), (0, "right")]
        driven(Tent(KITE), moves)
        undoing(moves)
        self.assertEqual(moves, [(0, "left"), (0, "left"), (0, "right")])

    def test_changing_lists_changes_no_later_answer(self):
        moves = [(0, "left"), (0, "right")]
        back = undoing(moves)
        moves[0] = (7, "left")
        moves.append((8, "left"))
        self.assertEqual(back, [(0, "left"), (0, "right")])
        told = undoing([])
        told.append((1, "left"))
        self.assertEqual(undoing([]), [])

    def test_changing_rows_changes_no_tent_behind(self):
        rows = list(KITE)
        tent = Tent(rows)
        behind = exchanged(tent, 0, "left")
        same = driven(tent, [])
        rows[0] = (50, 51, 52)
        tent.rows()[1] = (50, 51, 52)
        behind.rows().clear()
        self.assertEqual(behind.rows(), [(0, 2, 4), (1, 0, 3)])
        self.assertEqual(same.rows(), KITE)


if __name__ == "__main__":
    unittest.main()
