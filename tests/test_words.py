"""Points 1 and 7 to 10: threads."""

import itertools
import unittest

from tentloops.errors import NoPlace, NoThread, Rim
from tentloops.tents import Tent
from tentloops.words import alike, backward, least, letters, plain, times, turned, walked
from oracles import all_turns, mate_of, plain_by_words, threads_of
from samples import BALL, CONE, KITE, MIXED, TORUS, band, scattered

SMALL = [TORUS, KITE, CONE, BALL, MIXED, [(1, 2, 1)], scattered(3, 2), scattered(4, 2)]
LONG = [0, 4] * 998 + [0, 5, 0, 4]


class PlainTest(unittest.TestCase):

    def test_by_hand(self):
        for word in ([0, 4], [4, 0], [1, 3], [0, 5], [0, 4, 2, 4], [0, 4, 0, 4]):
            self.assertIs(plain(Tent(TORUS), word), True, word)
        for word in ([], [0], [0, 3], [0, 1], [0, 4, 2], [0, 4, 1, 3]):
            self.assertIs(plain(Tent(TORUS), word), False, word)

    def test_locked_seam(self):
        self.assertIs(plain(Tent(CONE), [0]), True)
        self.assertIs(plain(Tent(CONE), [1]), True)
        self.assertIs(plain(Tent(CONE), [0, 1]), False)
        self.assertIs(plain(Tent(CONE), [0, 0]), True)

    def test_rims_and_no_places(self):
        for word in ([2], [0, 2], [2, 0], [-1], [0, -1], [3], [0, 3], [-3], [10 ** 9]):
            self.assertIs(plain(Tent(CONE), word), False, word)
        self.assertIs(plain(Tent(KITE), [0]), False)
        self.assertIs(plain(Tent(KITE), [0, 4]), False)

    def test_last_and_first_follow_too(self):
        # All but the closing is right: by 5 one comes in at 2, and leaves by 2.
        self.assertIs(plain(Tent(TORUS), [2, 3, 1, 5]), False)
        self.assertIs(plain(Tent(TORUS), [2, 3, 1, 3]), True)

    def test_all_short_lists(self):
        for rows in SMALL:
            tent = Tent(rows)
            for length in range(4 if len(rows) < 3 else 3):
                for word in itertools.product(range(-1, 3 * len(rows) + 1), repeat=length):
                    self.assertIs(plain(tent, list(word)), plain_by_words(rows, word), (rows, word))

    def test_round_a_band_of_forty(self):
        word = [3 * k + 1 for k in range(40)]
        tent = Tent(band(40))
        self.assertIs(plain(tent, word), True)
        self.assertIs(plain(tent, word[:-1]), False)
        self.assertEqual(letters(tent, word), "R" * 40)
        self.assertEqual(backward(tent, word), [0] + [3 * k for k in range(39, 0, -1)])


class RefusalTest(unittest.TestCase):

    def test_no_thread(self):
        wrong = [[], [0], [0, 3], [0, 1], [0, 4, 2], [0, 4, 6], [-1, 4], [0, -2], [6, 6], [0, 4, 1, 3]]
        tent = Tent(TORUS)
        for word in wrong:
            with self.subTest(word=word):
                for ask in (backward, least, times, letters):
                    self.assertRaises(NoThread, ask, tent, word)
                self.assertRaises(NoThread, alike, tent, word, [0, 4])
                self.assertRaises(NoThread, alike, tent, [0, 4], word)
                self.assertRaises(NoThread, alike, tent, word, word)

    def test_no_thread_over_a_rim(self):
        for ask in (backward, least, times, letters):
            self.assertRaises(NoThread, ask, Tent(CONE), [2])
            self.assertRaises(NoThread, ask, Tent(KITE), [0, 3])


class TurnedTest(unittest.TestCase):

    def test_by_hand(self):
        word = [7, 8, 9, 7]
        self.assertEqual(turned(word, 0), [7, 8, 9, 7])
        self.assertEqual(turned(word, 1), [8, 9, 7, 7])
        self.assertEqual(turned(word, 3), [7, 7, 8, 9])
        self.assertEqual(turned(word, 4), word)

    def test_below_nought_and_greater_than_the_length(self):
        word = [1, 2, 3]
        self.assertEqual(turned(word, -1), [3, 1, 2])
        self.assertEqual(turned(word, -3), [1, 2, 3])
        self.assertEqual(turned(word, -4), [3, 1, 2])
        self.assertEqual(turned(word, 5), [3, 1, 2])
        self.assertEqual(turned(word, 10 ** 30 + 1), [3, 1, 2])
        self.assertEqual(turned(word, -(10 ** 30)), [3, 1, 2])
        self.assertEqual(turned([4], 17), [4])

    def test_empty(self):
        for by in (-5, -1, 0, 1, 99):
            self.assertEqual(turned([], by), [])


class BackwardTest(unittest.TestCase):

    def test_by_hand(self):
        self.assertEqual(backward(Tent(TORUS), [0, 4]), [1, 3])
        self.assertEqual(backward(Tent(TORUS), [0, 4, 2, 4]), [1, 5, 1, 3])
        self.assertEqual(backward(Tent(CONE), [0]), [1])

    def test_it_is_a_thread_whose_way_back_is_the_first(self):
        for rows in SMALL:
            for word in threads_of(rows, 4):
                back = backward(Tent(rows), word)
                self.assertEqual(back, [mate_of(rows, place) for place in word[::-1]])
                self.assertTrue(plain_by_words(rows, back))
                self.assertEqual(backward(Tent(rows), back), word)


class LeastTest(unittest.TestCase):

    def test_by_hand(self):
        tent = Tent(TORUS)
        for word in ([0, 4], [4, 0], [1, 3], [3, 1]):
            self.assertEqual(least(tent, word), [0, 4])
        # The way back has the least turn here.
        self.assertEqual(least(tent, [1, 5, 1, 3]), [0, 4, 2, 4])
        self.assertEqual(least(tent, [4, 2, 4, 0]), [0, 4, 2, 4])
        self.assertEqual(least(Tent(CONE), [1]), [0])

    def test_least_place_comes_twice(self):
        # Both turns that begin with 0 are told apart by what follows.
        self.assertEqual(least(Tent(TORUS), [0, 5, 0, 4]), [0, 4, 0, 5])
        self.assertEqual(least(Tent(TORUS), [0, 5, 0, 5, 0, 4]), [0, 4, 0, 5, 0, 5])

    def test_against_all_turns(self):
        for rows in SMALL:
            for word in threads_of(rows, 4):
                back = [mate_of(rows, place) for place in word[::-1]]
                self.assertEqual(least(Tent(rows), word), min(all_turns(word) + all_turns(back)))

    def test_places_are_compared_as_numbers(self):
        tent = Tent(band(5))
        self.assertEqual(least(tent, [10, 13, 1, 4, 7]), [0, 12, 9, 6, 3])
        self.assertEqual(least(tent, [12, 9, 6, 3, 0]), [0, 12, 9, 6, 3])


class AlikeTest(unittest.TestCase):

    def test_by_hand(self):
        tent = Tent(TORUS)
        self.assertIs(alike(tent, [0, 4], [0, 4]), True)
        self.assertIs(alike(tent, [0, 4], [4, 0]), True)
        self.assertIs(alike(tent, [0, 4], [1, 3]), True)
        self.assertIs(alike(tent, [0, 4], [3, 1]), True)
        self.assertIs(alike(tent, [0, 4], [0, 5]), False)
        self.assertIs(alike(tent, [0, 4], [0, 4, 0, 4]), False)

    def test_against_all_turns(self):
        for rows in (TORUS, BALL, CONE):
            words = threads_of(rows, 4)[:70]
            for one, other in itertools.product(words, repeat=2):
                back = [mate_of(rows, place) for place in other[::-1]]
                self.assertIs(alike(Tent(rows), one, other), one in all_turns(other) + all_turns(back))


class TimesTest(unittest.TestCase):

    def test_by_hand(self):
        tent = Tent(TORUS)
        self.assertEqual(times(tent, [0, 4]), 1)
        self.assertEqual(times(tent, [0, 4] * 2), 2)
        self.assertEqual(times(tent, [0, 4] * 6), 6)
        self.assertEqual(times(tent, [0, 4, 2, 4]), 1)
        self.assertEqual(times(tent, [0, 4, 2, 4] * 3), 3)
        self.assertEqual(times(tent, [0, 4, 0, 4, 0, 5]), 1)
        self.assertEqual(times(tent, [0, 4, 0, 5, 0, 4]), 1)
        self.assertEqual(times(Tent(CONE), [0]), 1)
        self.assertEqual(times(Tent(CONE), [1] * 7), 7)

    def test_against_all_counts(self):
        for rows in SMALL:
            for word in threads_of(rows, 4):
                fits = [n for n in range(1, len(word) + 1) if word[:len(word) // n] * n == word]
                self.assertEqual(times(Tent(rows), word), max(fits))


class LettersTest(unittest.TestCase):

    def test_by_hand(self):
        tent = Tent(TORUS)
        self.assertEqual(letters(tent, [0, 4]), "RL")
        self.assertEqual(letters(tent, [4, 0]), "LR")
        self.assertEqual(letters(tent, [0, 5]), "LR")
        self.assertEqual(letters(tent, [0, 4, 2, 4]), "RRLL")
        self.assertEqual(letters(tent, [0, 4, 2, 3, 1, 5]), "RRRRRR")
        self.assertEqual(letters(Tent(CONE), [0]), "L")
        self.assertEqual(letters(Tent(CONE), [1]), "R")

    def test_the_way_by_its_letters_is_the_thread(self):
        for rows in SMALL:
            tent = Tent(rows)
            for word in threads_of(rows, 4):
                told = letters(tent, word)
                self.assertEqual(len(told), len(word))
                self.assertEqual(walked(tent, word[0], told), word + word[:1])

    def test_the_way_back_has_contrary_turns(self):
        contrary = {"L": "R", "R": "L"}
        for rows in SMALL:
            for word in threads_of(rows, 4):
                told = letters(Tent(rows), word)
                back = "".join(contrary[turn] for turn in told[-2::-1] + told[-1])
                self.assertEqual(letters(Tent(rows), backward(Tent(rows), word)), back)


class WalkedTest(unittest.TestCase):

    def test_by_hand(self):
        tent = Tent(TORUS)
        self.assertEqual(walked(tent, 0, ""), [0])
        self.assertEqual(walked(tent, 0, "R"), [0, 4])
        self.assertEqual(walked(tent, 0, "L"), [0, 5])
        self.assertEqual(walked(tent, 0, "RRL"), [0, 4, 2, 4])
        self.assertEqual(walked(tent, 5, "LLRL"), [5, 1, 3, 1, 3])

    def test_ends_at_a_rim(self):
        tent = Tent(KITE)
        self.assertEqual(walked(tent, 1, ""), [1])
        self.assertEqual(walked(tent, 0, "R"), [0, 5])
        self.assertEqual(walked(tent, 0, "L"), [0, 3])
        self.assertEqual(walked(tent, 4, "R"), [4, 1])

    def test_rim_with_letters_left(self):
        tent = Tent(KITE)
        for place, turns in ((1, "L"), (1, "R"), (0, "RL"), (0, "LR"), (4, "RRR")):
            self.assertRaises(Rim, walked, tent, place, turns)

    def test_no_place(self):
        for turns in ("", "L", "RRR"):
            for place in (-1, 6, 7, 10 ** 12):
                self.assertRaises(NoPlace, walked, Tent(KITE), place, turns)

    def test_within_one_cloth(self):
        self.assertEqual(walked(Tent(CONE), 0, "LLL"), [0, 0, 0, 0])
        self.assertEqual(walked(Tent(CONE), 0, "R"), [0, 2])
        self.assertRaises(Rim, walked, Tent(CONE), 0, "RL")


class LongTest(unittest.TestCase):

    def test_a_thread_of_two_thousand_places(self):
        tent = Tent(TORUS)
        word = [0, 4] * 1000
        self.assertIs(plain(tent, word), True)
        self.assertEqual(backward(tent, word), [1, 3] * 1000)
        self.assertEqual(least(tent, turned(word, 999)), word)
        self.assertEqual(times(tent, word), 1000)
        self.assertEqual(letters(tent, word), "RL" * 1000)
        self.assertEqual(walked(tent, 0, "RL" * 1000), word + [0])
        self.assertIs(alike(tent, word, backward(tent, word)), True)

    def test_a_long_one_that_goes_once_round(self):
        tent = Tent(TORUS)
        self.assertEqual(len(LONG), 2000)
        self.assertIs(plain(tent, LONG), True)
        self.assertEqual(times(tent, LONG), 1)
        self.assertEqual(least(tent, LONG), [0, 4] * 999 + [0, 5])
        self.assertIs(alike(tent, LONG, turned(backward(tent, LONG), 1234)), True)
        self.assertIs(alike(tent, LONG, [0, 4] * 1000), False)
        self.assertIs(plain(tent, LONG[:-1] + [3]), False)
        self.assertIs(plain(tent, LONG[:-1]), False)


class KeepsNothingTest(unittest.TestCase):

    def test_words_handed_in_stay(self):
        tent = Tent(TORUS)
        word, other = [4, 2, 4, 0], [1, 5, 1, 3]
        for ask in (plain, backward, least, times, letters):
            ask(tent, word)
        alike(tent, word, other)
        turned(word, 2)
        self.assertEqual((word, other), ([4, 2, 4, 0], [1, 5, 1, 3]))
        self.assertEqual(tent.rows(), TORUS)

    def test_told_lists_are_new(self):
        tent = Tent(TORUS)
        word = [0, 4]
        told = [least(tent, word), backward(tent, word), walked(tent, 0, "R")]
        told += [turned(word, by) for by in (-2, 0, 1, 2)]
        for one in told:
            one.append(77)
            one[0] = 88
        self.assertEqual(word, [0, 4])
        self.assertEqual((least(tent, word), backward(tent, word)), ([0, 4], [1, 3]))
        self.assertEqual((turned(word, 0), walked(tent, 0, "R")), ([0, 4], [0, 4]))

    def test_the_empty_list_told_is_new(self):
        empty = []
        turned(empty, 1).append(5)
        self.assertEqual((empty, turned([], 1)), ([], []))

    def test_changing_a_word_changes_no_told_list(self):
        tent = Tent(TORUS)
        word = [0, 4]
        told = [least(tent, word), turned(word, 0), backward(tent, word)]
        word[0] = 2
        word.clear()
        self.assertEqual(told, [[0, 4], [0, 4], [1, 3]])


if __name__ == "__main__":
    unittest.main()
