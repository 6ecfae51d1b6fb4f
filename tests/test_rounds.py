"""Points 1 and 17 to 19: what a tent is like."""

import unittest

from tentloops.errors import NoPlace, Rim
from tentloops.exchange import driven, exchanged
from tentloops.rounds import about, pieces, points, rims, shape
from tentloops.tents import Tent
from tentloops.words import letters
from oracles import around, following_by_words, mate_of, plain_by_words, spots
from samples import (
    ALL, BALL, CONE, FLAP, HEAP, KITE, MIXED, POUCH, PRETZEL, TORUS, WAYS, band, free_seams, many_tents, scattered,
)

# Forty flaps that hang together nowhere.
FLAPS = [(3 * k, 3 * k + 1, 3 * k + 2) for k in range(40)]


def points_by_words(rows):
    """Point 17, told by the corners that follow one another."""
    follows = {corner: following_by_words(rows, corner) for corner in range(3 * len(rows))}
    groups = {corner: {corner} for corner in follows}
    for corner, other in follows.items():
        if other is not None and groups[corner] is not groups[other]:
            groups[corner] |= groups[other]
            for one in list(groups[other]):
                groups[one] = groups[corner]
    told = []
    for group in {min(group): group for group in groups.values()}.values():
        firsts = [corner for corner in group if corner not in follows.values()]
        here = firsts[0] if firsts else min(group)
        chain = []
        while here is not None and here not in chain:
            chain.append(here)
            here = follows[here]
        assert set(chain) == group
        told.append((not firsts, chain))
    return sorted(told, key=lambda pair: min(pair[1]))


def pieces_by_words(rows):
    """Point 19: cloths that share a name, put together until nothing changes."""
    mark = list(range(len(rows)))
    for unused in rows:
        for places in spots(rows).values():
            lesser = min(mark[place // 3] for place in places)
            for place in places:
                mark[place // 3] = lesser
    return [[k for k in range(len(rows)) if mark[k] == m] for m in sorted(set(mark))]


class PointsTest(unittest.TestCase):

    def test_within(self):
        self.assertEqual(points(Tent(TORUS)), [(True, [0, 4, 2, 3, 1, 5])])
        self.assertEqual(points(Tent(BALL)), [(True, [0]), (True, [1, 3, 5, 2]), (True, [4])])

    def test_at_a_rim(self):
        wanted = [(False, [3, 0]), (False, [1]), (False, [2, 4]), (False, [5])]
        self.assertEqual(points(Tent(KITE)), wanted)
        self.assertEqual(points(Tent(POUCH)), [(False, [8, 5, 2, 4, 6, 1, 3, 0, 7])])

    def test_both(self):
        self.assertEqual(points(Tent(CONE)), [(True, [0]), (False, [2, 1])])
        wanted = [(False, [3, 6, 8, 4, 0]), (False, [1]), (False, [2, 5]), (True, [7])]
        self.assertEqual(points(Tent(MIXED)), wanted)

    def test_without_any_sewn_seam(self):
        self.assertEqual(points(Tent(FLAP)), [(False, [0]), (False, [1]), (False, [2])])
        self.assertEqual(points(Tent(FLAPS)), [(False, [k]) for k in range(120)])

    def test_several_pieces(self):
        wanted = [(True, [0, 7, 2, 6, 1, 8])] + [(False, [k]) for k in (3, 4, 5)] + [(True, [9]), (False, [11, 10])]
        self.assertEqual(points(Tent(HEAP)), wanted)

    def test_forty_cloths(self):
        told = points(Tent(band(40)))
        self.assertEqual(told[0], (True, [3 * k for k in range(40)]))
        self.assertEqual(told[1:3], [(False, [5, 1]), (False, [2, 118])])
        self.assertEqual(len(told), 41)

    def test_against_the_words(self):
        for rows in many_tents() + ALL:
            self.assertEqual(points(Tent(rows)), points_by_words(rows))

    def test_kinds_of_values(self):
        for rows in ALL:
            told = points(Tent(rows))
            self.assertIs(type(told), list)
            for pair in told:
                self.assertIs(type(pair), tuple)
                self.assertEqual([type(part) for part in pair], [bool, list])

    def test_each_corner_once(self):
        for rows in many_tents():
            corners = [corner for within, own in points(Tent(rows)) for corner in own]
            self.assertEqual(sorted(corners), list(range(3 * len(rows))))


class AboutTest(unittest.TestCase):

    def test_by_hand(self):
        self.assertEqual(about(Tent(TORUS), 0), [1, 5, 0, 4, 2, 3])
        self.assertEqual(about(Tent(TORUS), 3), [4, 2, 3, 1, 5, 0])
        self.assertEqual(about(Tent(BALL), 1), [2, 4, 3, 0])
        self.assertEqual(about(Tent(BALL), 2), [0, 2, 4, 3])

    def test_one_corner(self):
        self.assertEqual(about(Tent(CONE), 0), [1])
        self.assertEqual(about(Tent(BALL), 0), [1])
        self.assertEqual(about(Tent(BALL), 4), [5])
        self.assertEqual(about(Tent(HEAP), 9), [10])

    def test_forty_cloths(self):
        self.assertEqual(about(Tent(band(40)), 0), [3 * k + 1 for k in range(40)])
        self.assertEqual(about(Tent(band(40)), 6), [3 * (k % 40) + 1 for k in range(2, 42)])

    def test_each_corner(self):
        for rows in many_tents():
            tent = Tent(rows)
            for within, corners in points_by_words(rows):
                for at, corner in enumerate(corners):
                    if not within:
                        self.assertRaises(Rim, about, tent, corner)
                        continue
                    told = about(tent, corner)
                    self.assertEqual(told, [around(each, 1) for each in corners[at:] + corners[:at]])
                    self.assertTrue(plain_by_words(rows, told))
                    self.assertEqual(letters(tent, told), "R" * len(told))

    def test_no_place(self):
        for rows in (CONE, TORUS, FLAP, band(40)):
            for corner in (-1, -2, -3, 3 * len(rows), 3 * len(rows) + 1, 10 ** 9):
                self.assertRaises(NoPlace, about, Tent(rows), corner)

    def test_rim(self):
        for corner in (1, 2):
            self.assertRaises(Rim, about, Tent(CONE), corner)
        for corner in range(6):
            self.assertRaises(Rim, about, Tent(KITE), corner)
        for corner in range(9):
            self.assertRaises(Rim, about, Tent(POUCH), corner)


class RimsTest(unittest.TestCase):

    def test_by_hand(self):
        self.assertEqual(rims(Tent(KITE)), [[1, 2, 5, 3]])
        self.assertEqual(rims(Tent(CONE)), [[2]])
        self.assertEqual(rims(Tent(MIXED)), [[1, 2, 3]])
        self.assertEqual(rims(Tent(POUCH)), [[8]])
        self.assertEqual(rims(Tent(FLAP)), [[0, 1, 2]])

    def test_without_any_rim(self):
        for rows in (TORUS, BALL, PRETZEL):
            self.assertEqual(rims(Tent(rows)), [])

    def test_two_rounds_of_one_piece(self):
        # A torus cut open along seam 2 is a ring: seams 2 and 3 are its two rims.
        self.assertEqual(rims(Tent([(0, 1, 2), (0, 1, 3)])), [[2], [5]])
        # Four cloths in a ring, the rims by turns on this side and on that.
        ring = [(3, 10, 0), (0, 1, 11), (1, 12, 2), (2, 3, 13)]
        self.assertEqual(rims(Tent(ring)), [[1, 7], [5, 11]])
        self.assertEqual(shape(Tent(ring)), [(4, 0, 2, 0)])

    def test_several_pieces(self):
        self.assertEqual(rims(Tent(HEAP)), [[3, 4, 5], [11]])
        self.assertEqual(rims(Tent(FLAPS)), [[3 * k, 3 * k + 1, 3 * k + 2] for k in range(40)])

    def test_forty_cloths(self):
        self.assertEqual(rims(Tent(band(40))), [[2] + [3 * k + 2 for k in range(39, 0, -1)]])

    def test_against_the_words(self):
        for rows in many_tents() + ALL:
            told = rims(Tent(rows))
            alone = [place for place in range(3 * len(rows)) if mate_of(rows, place) is None]
            self.assertEqual(sorted(place for one in told for place in one), alone)
            self.assertEqual(told, sorted(told))
            lasts = {corner: own[-1] for within, own in points_by_words(rows) for corner in own}
            for one in told:
                self.assertEqual(one[0], min(one))
                for place, following in zip(one, one[1:] + one[:1]):
                    self.assertEqual(around(lasts[place], 1), following)


class PiecesTest(unittest.TestCase):

    def test_by_hand(self):
        self.assertEqual(pieces(Tent(HEAP)), [[0, 2], [1], [3]])
        self.assertEqual(pieces(Tent(CONE)), [[0]])
        self.assertEqual(pieces(Tent(FLAP)), [[0]])
        self.assertEqual(pieces(Tent(TORUS)), [[0, 1]])
        self.assertEqual(pieces(Tent(FLAPS)), [[k] for k in range(40)])

    def test_a_way_over_several_seams(self):
        self.assertEqual(pieces(Tent(band(40))), [list(range(40))])
        chain = [(1, 90, 91), (5, 92, 93), (3, 2, 94), (2, 1, 95), (3, 96, 97), (6, 5, 98)]
        self.assertEqual(pieces(Tent(chain)), [[0, 2, 3, 4], [1, 5]])

    def test_against_the_words(self):
        for rows in many_tents() + ALL + [scattered(seed, 6)[:4] + HEAP for seed in range(9)]:
            if max(len(places) for places in spots(rows).values()) <= 2:
                self.assertEqual(pieces(Tent(rows)), pieces_by_words(rows))


class ShapeTest(unittest.TestCase):

    def test_by_hand(self):
        self.assertEqual(shape(Tent(TORUS)), [(2, 1, 0, 1)])
        self.assertEqual(shape(Tent(BALL)), [(2, 3, 0, 0)])
        self.assertEqual(shape(Tent(KITE)), [(2, 0, 1, 0)])
        self.assertEqual(shape(Tent(CONE)), [(1, 1, 1, 0)])
        self.assertEqual(shape(Tent(MIXED)), [(3, 1, 1, 0)])
        self.assertEqual(shape(Tent(FLAP)), [(1, 0, 1, 0)])
        self.assertEqual(shape(Tent(PRETZEL)), [(6, 1, 0, 2)])
        self.assertEqual(shape(Tent(POUCH)), [(3, 0, 1, 1)])
        self.assertEqual(shape(Tent([(0, 1, 2), (0, 1, 3)])), [(2, 0, 2, 0)])

    def test_several_pieces(self):
        self.assertEqual(shape(Tent(HEAP)), [(2, 1, 0, 1), (1, 0, 1, 0), (1, 1, 1, 0)])
        self.assertEqual(shape(Tent(FLAPS)), [(1, 0, 1, 0)] * 40)
        heap = [(50, 50, 51)] + [tuple(name + 60 for name in row) for row in PRETZEL] + POUCH
        self.assertEqual(shape(Tent(heap)), [(1, 1, 1, 0), (6, 1, 0, 2), (3, 0, 1, 1)])

    def test_forty_cloths(self):
        self.assertEqual(shape(Tent(band(40))), [(40, 1, 1, 0)])
        # A cloth of forty-two sides, each sewn to the one across: ten handles and two points.
        sides = [k % 21 for k in range(42)]
        inner = [100 + k for k in range(39)]
        rows = [(sides[0], sides[1], inner[0])]
        rows += [(inner[k], sides[k + 2], inner[k + 1]) for k in range(38)]
        rows += [(inner[38], sides[40], sides[41])]
        self.assertEqual(len(rows), 40)
        self.assertEqual(shape(Tent(rows)), [(40, 2, 0, 10)])

    def test_kinds_of_values(self):
        for rows in ALL:
            told = shape(Tent(rows))
            self.assertIs(type(told), list)
            for one in told:
                self.assertIs(type(one), tuple)
                self.assertEqual([type(part) for part in one], [int] * 4)

    def test_against_the_words(self):
        for rows in many_tents() + ALL:
            told = shape(Tent(rows))
            own = pieces_by_words(rows)
            self.assertEqual([one[0] for one in told], [len(piece) for piece in own])
            for (cloths, within, rounds, handles), piece in zip(told, own):
                found = [w for w, corners in points_by_words(rows) if corners[0] // 3 in piece]
                seams = {name for k in piece for name in rows[k]}
                self.assertEqual(within, len([w for w in found if w]))
                self.assertEqual(rounds, len([one for one in rims(Tent(rows)) if one[0] // 3 in piece]))
                self.assertEqual(2 * handles, 2 - rounds - len(found) + len(seams) - cloths)
                self.assertGreaterEqual(handles, 0)

    def test_no_exchange_changes_it(self):
        for rows in many_tents() + ALL:
            tent = Tent(rows)
            for seam in free_seams(tent)[::1 + len(rows) // 10]:
                for way in WAYS:
                    self.assertEqual(shape(exchanged(tent, seam, way)), shape(tent))
                    self.assertEqual(pieces(exchanged(tent, seam, way)), pieces(tent))

    def test_no_row_of_exchanges_changes_it(self):
        for rows in (TORUS, BALL, PRETZEL, POUCH, MIXED, HEAP, band(40)):
            tent, moves = Tent(rows), []
            for step in range(20):
                seams = free_seams(driven(tent, moves))
                moves.append((seams[(5 * step + 2) % len(seams)], WAYS[step * step % 3 % 2]))
            self.assertEqual(shape(driven(tent, moves)), shape(tent))


class KeepsNothingTest(unittest.TestCase):

    def everything(self, tent):
        return [points(tent), about(tent, 9), rims(tent), pieces(tent), shape(tent), tent.rows()]

    def test_what_is_told_is_new(self):
        tent = Tent(HEAP)
        wanted = self.everything(Tent(HEAP))
        for pair in points(tent):
            pair[1].append(77)
        for ask in (points, rims, pieces, shape):
            ask(tent).clear()
        for ask in (rims, pieces):
            for one in ask(tent):
                one[0] = 88
                one.append(99)
        about(tent, 9).append(5)
        self.assertEqual(self.everything(tent), wanted)

    def test_changing_rows_changes_no_later_answer(self):
        rows = list(HEAP)
        tent = Tent(rows)
        wanted = self.everything(tent)
        rows[0] = (5, 6, 7)
        rows.clear()
        self.assertEqual(self.everything(tent), wanted)


if __name__ == "__main__":
    unittest.main()
