"""Points 3 to 10 with numbers that Python does not write out: the refusal that is due comes all the same."""

import unittest

from tentloops.errors import NoPlace, NoSeam, NoTent, NoThread, NoWay
from tentloops.exchange import driven, exchanged, moved, square, undoing
from tentloops.tents import Tent, after, before
from tentloops.words import alike, backward, least, letters, plain, times, turned, walked
from samples import ALL, TORUS, WAYS

GREAT = 10 ** 5000
NUMBERS = (GREAT, GREAT + 1, -GREAT, 10 ** 4300, -(10 ** 4300))


def each():
    """Each tent with each number."""
    return [(Tent(rows), number) for rows in ALL for number in NUMBERS]


class GreatNumbersTest(unittest.TestCase):

    def test_python_does_not_write_them_out(self):
        for number in NUMBERS:
            self.assertRaises(ValueError, str, number)

    def test_no_tent(self):
        for number in NUMBERS:
            for rows in ([(number, 0, 1)], [(0, 1, 2), (3, number, number)], [(number, number, number)]):
                self.assertRaises(NoTent, Tent, rows)

    def test_no_place(self):
        for tent, number in each():
            self.assertRaises(NoPlace, tent.seam_at, number)
            self.assertRaises(NoPlace, tent.mate, number)
            self.assertRaises(NoPlace, walked, tent, number, "")
            self.assertRaises(NoPlace, walked, tent, number, "LR")
        for number in NUMBERS:
            for way in WAYS:
                self.assertRaises(NoPlace, moved, Tent(TORUS), 0, way, number)

    def test_no_seam(self):
        for tent, number in each():
            for ask in (tent.places, tent.sort_of):
                self.assertRaises(NoSeam, ask, number)
            self.assertRaises(NoSeam, square, tent, number)
            for way in WAYS:
                self.assertRaises(NoSeam, exchanged, tent, number, way)
                self.assertRaises(NoSeam, moved, tent, number, way, number)
                self.assertRaises(NoSeam, driven, tent, [(number, way)])
            self.assertRaises(NoWay, exchanged, tent, number, "up")
            self.assertRaises(NoWay, undoing, [(number, "up")])

    def test_no_thread(self):
        for tent, number in each():
            for word in ([number], [number, 0], [0, number]):
                self.assertIs(plain(tent, word), False)
                for ask in (backward, least, times, letters):
                    self.assertRaises(NoThread, ask, tent, word)
                self.assertRaises(NoThread, alike, tent, word, word)

    def test_what_is_not_refused(self):
        self.assertEqual((after(3 * GREAT), after(3 * GREAT + 2)), (3 * GREAT + 1, 3 * GREAT))
        self.assertEqual((before(3 * GREAT), before(3 * GREAT + 2)), (3 * GREAT + 2, 3 * GREAT + 1))
        self.assertEqual((turned([1, 2], GREAT + 1), turned([1, 2], -GREAT)), ([2, 1], [1, 2]))
        self.assertEqual(undoing([(GREAT, "left")]), [(GREAT, "right")])


if __name__ == "__main__":
    unittest.main()
