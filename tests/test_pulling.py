"""Points 1, 11 and 12: threads behind exchanges."""

import unittest

from tentloops.errors import Locked, NoSeam, NoThread, NoWay, Rim
from tentloops.exchange import contrary, driven, exchanged, undoing
from tentloops.pulling import pulled, pulled_along
from tentloops.tents import Tent
from tentloops.words import alike, backward, least, times, turned
from oracles import all_turns, behind_by_words, plain_by_words, pulled_by_words, threads_of
from samples import (
    BALL, CONE, FLAP, HEAP, KITE, MIXED, POUCH, PRETZEL, TORUS, WAYS, band, dealt_moves, free_seams, many_tents,
    wandered,
)

SMALL = [TORUS, BALL, MIXED, POUCH, [(1, 4, 2), (2, 4, 1)], [(0, 0, 1), (1, 2, 3)]]


def names_without(rows, word, seam):
    """The seams that a thread crosses one after another, but for one of them."""
    return [name for name in [rows[place // 3][place % 3] for place in word] if name != seam]


def each_exchange():
    """Tents of all sorts with threads on them and with each exchange: (rows, seam, way, word)."""
    for number, rows in enumerate(many_tents()):
        seams = free_seams(Tent(rows))
        words = wandered(rows, 1000 + number)
        if len(rows) > 9:
            seams, words = seams[::7], words[:3]
        for seam in seams:
            for word in words:
                for way in WAYS:
                    yield rows, seam, way, word


class PulledByHandTest(unittest.TestCase):

    def test_left(self):
        self.assertEqual(pulled(Tent(TORUS), 0, "left", [0, 4]), [2, 3])

    def test_right(self):
        self.assertEqual(pulled(Tent(TORUS), 0, "right", [0, 4]), [5, 0])

    def test_the_exchanged_seam_is_crossed_at_the_last_place(self):
        self.assertEqual(pulled(Tent(TORUS), 0, "left", [4, 0]), [2, 3])
        self.assertEqual(pulled(Tent(TORUS), 0, "right", [4, 0]), [5, 0])

    def test_nothing_is_put_in_where_none_is_needed(self):
        # It crosses the seam twice, and behind the exchange not at all.
        self.assertEqual(pulled(Tent(TORUS), 0, "left", [0, 5, 0, 4]), [4, 2])
        self.assertEqual(pulled(Tent(TORUS), 0, "left", [5, 0, 4, 0]), [4, 2])
        self.assertEqual(pulled(Tent(TORUS), 0, "right", [0, 5, 0, 4]), [1, 5])

    def test_put_in_where_none_was(self):
        # [1, 5] does not cross seam 0 and needs it at both turns behind the exchange.
        self.assertEqual(pulled(Tent(TORUS), 0, "left", [1, 5]), [5, 0, 4, 0])
        self.assertEqual(pulled(Tent(TORUS), 0, "right", [1, 5]), [2, 3, 1, 3])

    def test_begins_with_what_the_first_place_left_became(self):
        self.assertEqual(pulled(Tent(TORUS), 0, "left", [5, 1]), [4, 0, 5, 0])
        self.assertEqual(pulled(Tent(TORUS), 0, "left", [0, 4, 0, 5]), [2, 4])
        self.assertEqual(pulled(Tent(TORUS), 0, "left", [4, 0, 5, 0]), [2, 4])

    def test_square_whose_places_share_names(self):
        # Both places of each locked seam are in the square.
        self.assertEqual(pulled(Tent(BALL), 2, "left", [0]), [5, 2])
        self.assertEqual(pulled(Tent(BALL), 2, "right", [0]), [1, 3])
        self.assertEqual(pulled(Tent(BALL), 2, "left", [4]), [1, 3])
        self.assertEqual(pulled(Tent(BALL), 2, "left", [1, 2, 4, 3]), [0, 3, 1, 3])
        self.assertEqual(pulled(Tent(BALL), 2, "left", [1, 2, 5, 3]), [0, 4])

    def test_one_that_stays_away(self):
        for way in WAYS:
            self.assertEqual(pulled(Tent(HEAP), 0, way, [9]), [9])
            self.assertEqual(pulled(Tent(HEAP), 0, way, [10, 10]), [10, 10])
            self.assertEqual(pulled(Tent(MIXED), 6, way, [7]), [7])

    def test_moved_though_it_does_not_cross(self):
        # Seam 8's exchange brings both places of the locked seam 9 into unlike cloths.
        self.assertEqual(pulled(Tent(MIXED), 8, "left", [7]), [3, 6])
        self.assertEqual(pulled(Tent(MIXED), 8, "right", [7]), [8, 4])

    def test_round_a_band_of_forty(self):
        word = [3 * k + 1 for k in range(40)]
        self.assertEqual(pulled(Tent(band(40)), 0, "left", word), [0] + word[2:])
        self.assertEqual(pulled(Tent(band(40)), 0, "right", word), [5] + word[2:])


class PulledTest(unittest.TestCase):

    def test_against_the_words(self):
        for rows, seam, way, word in each_exchange():
            self.assertEqual(pulled(Tent(rows), seam, way, word), pulled_by_words(rows, seam, way, word))

    def test_all_short_threads(self):
        for rows in SMALL:
            tent = Tent(rows)
            for word in threads_of(rows, 4 if len(rows) == 2 else 3):
                for seam in free_seams(tent):
                    for way in WAYS:
                        self.assertEqual(pulled(tent, seam, way, word), pulled_by_words(rows, seam, way, word))

    def test_it_is_a_plain_thread_behind(self):
        for rows, seam, way, word in each_exchange():
            behind = behind_by_words(rows, seam, way)
            self.assertTrue(plain_by_words(behind, pulled(Tent(rows), seam, way, word)))

    def test_all_other_seams_are_crossed_as_before(self):
        for rows, seam, way, word in each_exchange():
            behind = behind_by_words(rows, seam, way)
            told = pulled(Tent(rows), seam, way, word)
            self.assertEqual(names_without(behind, told, seam), names_without(rows, word, seam))

    def test_the_contrary_exchange_leads_back(self):
        for rows, seam, way, word in each_exchange():
            tent = Tent(rows)
            there = pulled(tent, seam, way, word)
            back = pulled(exchanged(tent, seam, way), seam, contrary(way), there)
            self.assertIn(word, all_turns(back))
            self.assertIs(alike(tent, word, back), True)

    def test_turns_and_the_way_back_are_the_same_thread_behind(self):
        for rows in SMALL:
            tent = Tent(rows)
            for word in wandered(rows, 5):
                for seam in free_seams(tent):
                    behind = exchanged(tent, seam, "left")
                    told = least(behind, pulled(tent, seam, "left", word))
                    for other in [turned(word, 1), turned(word, -2), backward(tent, word)]:
                        self.assertEqual(least(behind, pulled(tent, seam, "left", other)), told)

    def test_put_several_times_behind_itself(self):
        for rows in SMALL:
            tent = Tent(rows)
            for word in wandered(rows, 9):
                for seam in free_seams(tent):
                    behind = exchanged(tent, seam, "right")
                    once = pulled(tent, seam, "right", word)
                    for many in (2, 3, 7):
                        told = pulled(tent, seam, "right", word * many)
                        self.assertEqual(told, once * many)
                        self.assertEqual(times(behind, told), many * times(behind, once))

    def test_two_thousand_places(self):
        tent = Tent(TORUS)
        self.assertEqual(pulled(tent, 0, "left", [0, 4] * 1000), [2, 3] * 1000)
        self.assertEqual(pulled(tent, 0, "left", [1, 5] * 1000), [5, 0, 4, 0] * 1000)
        word = [0, 4] * 998 + [0, 5, 0, 4]
        told = pulled(tent, 0, "right", word)
        self.assertEqual(told, [5, 0] * 997 + [5, 1] + [5, 0])
        self.assertEqual(times(exchanged(tent, 0, "right"), told), 1)


class PulledRefusalTest(unittest.TestCase):

    def test_no_thread(self):
        for word in ([], [0], [0, 3], [0, 4, 2], [6], [-1, 4], [0, 4, 1, 3]):
            for way in WAYS:
                self.assertRaises(NoThread, pulled, Tent(TORUS), 0, way, word)
        # Without its crossings of the seam the list would be one.
        self.assertRaises(NoThread, pulled, Tent(HEAP), 0, "left", [9, 0])
        self.assertRaises(NoThread, pulled, Tent(KITE), 0, "left", [1])

    def test_those_of_the_exchange(self):
        for word in ([0, 4], [], [0], [77]):
            for seam in (0, 9, -1):
                self.assertRaises(NoWay, pulled, Tent(TORUS), seam, "up", word)
            for way in WAYS:
                self.assertRaises(NoSeam, pulled, Tent(TORUS), 9, way, word)
                self.assertRaises(NoSeam, pulled, Tent(TORUS), -1, way, word)
        for word in ([0], [1], [], [2], [5]):
            for way in WAYS:
                self.assertRaises(Rim, pulled, Tent(CONE), 7, way, word)
                self.assertRaises(Locked, pulled, Tent(CONE), 5, way, word)
                self.assertRaises(NoSeam, pulled, Tent(CONE), 0, way, word)
                self.assertRaises(Rim, pulled, Tent(FLAP), 1, way, word)
            self.assertRaises(NoWay, pulled, Tent(CONE), 7, "Left", word)
            self.assertRaises(NoWay, pulled, Tent(CONE), 5, "", word)


class PulledAlongTest(unittest.TestCase):

    def test_empty_row(self):
        for rows in (TORUS, CONE, BALL, PRETZEL):
            for word in wandered(rows, 3):
                self.assertEqual(pulled_along(Tent(rows), [], word), word)

    def test_by_hand(self):
        self.assertEqual(pulled_along(Tent(TORUS), [(0, "left")], [0, 4]), [2, 3])
        self.assertEqual(pulled_along(Tent(TORUS), [(0, "left"), (0, "right")], [0, 4]), [4, 0])
        # Seam 1 is locked at first.
        self.assertEqual(pulled_along(Tent(BALL), [(2, "left"), (1, "left")], [0]), [1])

    def test_one_by_one(self):
        for number, rows in enumerate(many_tents()):
            moves = dealt_moves(rows, 40 + number, 5)
            for word in wandered(rows, number)[:3]:
                told, at = word, rows
                for seam, way in moves:
                    told, at = pulled_by_words(at, seam, way, told), behind_by_words(at, seam, way)
                self.assertEqual(pulled_along(Tent(rows), moves, word), told)

    def test_the_row_that_leads_back(self):
        for number, rows in enumerate(many_tents()):
            tent = Tent(rows)
            moves = dealt_moves(rows, 90 + number, 6)
            for word in wandered(rows, 7 + number)[:3]:
                there = pulled_along(tent, moves, word)
                back = pulled_along(driven(tent, moves), undoing(moves), there)
                self.assertIs(alike(tent, back, word), True)

    def test_no_thread_goes_ahead_of_all(self):
        rows_of_moves = ([], [(0, "left")], [(0, "up")], [(9, "left")], [(0, "left"), (9, "up")])
        for moves in rows_of_moves:
            for word in ([], [0], [0, 3], [9]):
                self.assertRaises(NoThread, pulled_along, Tent(TORUS), moves, word)
        for moves in ([(5, "left")], [(7, "left")], [(8, "left")], [(5, "")]):
            self.assertRaises(NoThread, pulled_along, Tent(CONE), moves, [2])

    def test_refusals_of_the_exchanges(self):
        ask = pulled_along
        self.assertRaises(NoWay, ask, Tent(TORUS), [(9, "up")], [0, 4])
        self.assertRaises(NoWay, ask, Tent(TORUS), [(0, "left"), (0, "up")], [0, 4])
        self.assertRaises(NoSeam, ask, Tent(TORUS), [(0, "left"), (9, "left")], [0, 4])
        self.assertRaises(Rim, ask, Tent(CONE), [(7, "left")], [0])
        self.assertRaises(Locked, ask, Tent(CONE), [(5, "left")], [0])
        self.assertRaises(Locked, ask, Tent(BALL), [(2, "left"), (1, "left"), (2, "left")], [0])
        self.assertRaises(Locked, ask, Tent(BALL), [(1, "left"), (2, "left")], [0])

    def test_of_two_refusals_the_earlier_exchange_has_its_own(self):
        self.assertRaises(NoSeam, pulled_along, Tent(TORUS), [(9, "left"), (0, "up")], [0, 4])
        self.assertRaises(Locked, pulled_along, Tent(CONE), [(5, "left"), (9, "left")], [0])


class KeepsNothingTest(unittest.TestCase):

    def test_what_is_handed_in_stays(self):
        tent, word, moves = Tent(TORUS), [0, 5, 0, 4], [(0, "left"), (1, "right")]
        pulled(tent, 0, "left", word)
        pulled_along(tent, moves, word)
        self.assertEqual((word, moves), ([0, 5, 0, 4], [(0, "left"), (1, "right")]))
        self.assertEqual(tent.rows(), TORUS)

    def test_told_lists_are_new(self):
        tent, word = Tent(TORUS), [0, 4]
        for moves in ([], [(0, "left")]):
            first = pulled_along(tent, moves, word)
            wanted = list(first)
            first.append(5)
            first[0] = 77
            self.assertEqual(word, [0, 4])
            self.assertEqual(pulled_along(tent, moves, word), wanted)
        pulled(tent, 0, "left", word).clear()
        self.assertEqual(pulled(tent, 0, "left", word), [2, 3])
        kept = pulled(Tent(HEAP), 0, "left", [9])
        kept[0] = 3
        self.assertEqual(pulled(Tent(HEAP), 0, "left", [9]), [9])

    def test_changing_what_was_handed_in_changes_nothing_told(self):
        tent, word, moves = Tent(TORUS), [0, 4], [(0, "left")]
        told = [pulled(tent, 0, "left", word), pulled_along(tent, [], word), pulled_along(tent, moves, word)]
        word[0] = 2
        moves.clear()
        self.assertEqual(told, [[2, 3], [0, 4], [2, 3]])


if __name__ == "__main__":
    unittest.main()
