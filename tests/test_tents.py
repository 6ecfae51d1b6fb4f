"""Points 1, 2 and 3: tents."""

import unittest

from tentloops.errors import NoPlace, NoSeam, NoTent
from tentloops.tents import Tent, after, before
from oracles import mate_of, spots
from samples import BALL, CONE, KITE, MIXED, TORUS, band, many_tents


class AroundTest(unittest.TestCase):

    def test_after(self):
        self.assertEqual([after(p) for p in range(9)], [1, 2, 0, 4, 5, 3, 7, 8, 6])

    def test_before(self):
        self.assertEqual([before(p) for p in range(9)], [2, 0, 1, 5, 3, 4, 8, 6, 7])

    def test_far_places(self):
        self.assertEqual([after(117), after(118), after(119)], [118, 119, 117])
        self.assertEqual([before(117), before(118), before(119)], [119, 117, 118])
        self.assertEqual((after(3 * 10 ** 30 + 2), before(3 * 10 ** 30)), (3 * 10 ** 30, 3 * 10 ** 30 + 2))


class TentTest(unittest.TestCase):

    def test_rows_and_size(self):
        for rows in (TORUS, KITE, CONE, MIXED):
            tent = Tent(rows)
            self.assertEqual(tent.rows(), rows)
            self.assertEqual(tent.size(), len(rows))
            self.assertIs(type(tent.rows()), list)
            self.assertTrue(all(type(row) is tuple for row in tent.rows()))

    def test_seams_rise(self):
        self.assertEqual(Tent(MIXED).seams(), [1, 2, 3, 6, 8, 9])
        self.assertEqual(Tent([(9, 10, 2)]).seams(), [2, 9, 10])

    def test_seam_at(self):
        tent = Tent(MIXED)
        self.assertEqual([tent.seam_at(p) for p in range(9)], [6, 1, 2, 3, 8, 6, 8, 9, 9])

    def test_places(self):
        tent = Tent(MIXED)
        self.assertEqual([tent.places(s) for s in (1, 3, 6, 8, 9)], [[1], [3], [0, 5], [4, 6], [7, 8]])

    def test_mate(self):
        tent = Tent(MIXED)
        self.assertEqual([tent.mate(p) for p in range(9)], [5, None, None, None, 6, 0, 4, 8, 7])

    def test_sort_of(self):
        tent = Tent(MIXED)
        self.assertEqual([tent.sort_of(s) for s in (1, 2, 3, 6, 8, 9)], ["rim"] * 3 + ["free"] * 2 + ["locked"])
        self.assertEqual([Tent(BALL).sort_of(s) for s in (1, 2, 4)], ["locked", "free", "locked"])

    def test_one_cloth(self):
        tent = Tent(CONE)
        self.assertEqual((tent.size(), tent.seams()), (1, [5, 7]))
        self.assertEqual([tent.mate(p) for p in range(3)], [1, 0, None])
        self.assertEqual((tent.sort_of(5), tent.sort_of(7)), ("locked", "rim"))
        self.assertEqual([Tent([(3, 4, 3)]).mate(p) for p in range(3)], [2, None, 0])

    def test_forty_cloths(self):
        rows = band(40)
        tent = Tent(rows)
        self.assertEqual((tent.size(), tent.rows()), (40, rows))
        self.assertEqual((tent.seam_at(119), tent.mate(119), tent.mate(118)), (5039, None, 0))
        self.assertEqual(tent.places(39), [0, 118])

    def test_names_0_and_9999(self):
        tent = Tent([(0, 9999, 0)])
        self.assertEqual((tent.seams(), tent.sort_of(0), tent.sort_of(9999)), ([0, 9999], "locked", "rim"))

    def test_many_tents(self):
        for rows in many_tents():
            tent = Tent(rows)
            found = spots(rows)
            self.assertEqual(tent.seams(), sorted(found))
            for name in found:
                self.assertEqual(tent.places(name), found[name])
                cloths = {place // 3 for place in found[name]}
                sort = "rim" if len(found[name]) == 1 else "locked" if len(cloths) == 1 else "free"
                self.assertEqual(tent.sort_of(name), sort)
            for place in range(3 * len(rows)):
                self.assertEqual(tent.mate(place), mate_of(rows, place))
                self.assertEqual(tent.seam_at(place), rows[place // 3][place % 3])


class RefusalTest(unittest.TestCase):

    def test_no_tent(self):
        wrong = [
            [], [(-1, 0, 1)], [(0, 1, 10000)], [(0, 10000, 1)], [(1, 2, 3), (4, 5, -7)], [(10 ** 20, 1, 2)],
            [(3, 3, 3)], [(1, 2, 3), (1, 4, 5), (6, 7, 1)], [(1, 1, 2), (3, 4, 1)],
            [(1, 2, 3), (1, 2, 3), (1, 2, 3)],
        ]
        for rows in wrong:
            with self.subTest(rows=rows), self.assertRaises(NoTent):
                Tent(rows)

    def test_no_place(self):
        for rows in (CONE, TORUS, band(40)):
            tent = Tent(rows)
            for place in (-1, -3, 3 * len(rows), 3 * len(rows) + 1, 10 ** 9):
                with self.subTest(rows=rows, place=place):
                    self.assertRaises(NoPlace, tent.seam_at, place)
                    self.assertRaises(NoPlace, tent.mate, place)

    def test_no_seam(self):
        tent = Tent(KITE)
        for seam in (-1, 5, 9999, 10000):
            with self.subTest(seam=seam):
                self.assertRaises(NoSeam, tent.places, seam)
                self.assertRaises(NoSeam, tent.sort_of, seam)


class KeepsNothingTest(unittest.TestCase):

    def everything(self, tent):
        places = range(3 * tent.size())
        return [
            tent.rows(), tent.size(), tent.seams(), [tent.seam_at(p) for p in places],
            [tent.mate(p) for p in places], [tent.places(s) for s in tent.seams()],
            [tent.sort_of(s) for s in tent.seams()],
        ]

    def test_rows_handed_in_are_not_changed(self):
        rows = list(MIXED)
        self.everything(Tent(rows))
        self.assertEqual(rows, MIXED)

    def test_rows_handed_in_are_not_kept(self):
        rows = list(MIXED)
        tent = Tent(rows)
        rows[0] = (77, 78, 79)
        rows.append((80, 81, 82))
        self.assertEqual(self.everything(tent), self.everything(Tent(MIXED)))
        rows.clear()
        self.assertEqual(self.everything(tent), self.everything(Tent(MIXED)))

    def test_told_lists_are_not_kept(self):
        tent = Tent(MIXED)
        tent.rows().clear()
        tent.rows()[0] = (1, 1, 1)
        tent.seams().append(4)
        tent.seams()[0] = 4
        for seam in tent.seams():
            tent.places(seam)[0] = 99
            tent.places(seam).clear()
        self.assertEqual(self.everything(tent), self.everything(Tent(MIXED)))

    def test_two_tents_of_one_list_are_apart(self):
        rows = list(KITE)
        one = Tent(rows)
        rows[0] = (0, 1, 1)
        other = Tent(rows)
        self.assertEqual((one.sort_of(1), other.sort_of(1)), ("rim", "locked"))


if __name__ == "__main__":
    unittest.main()
