"""Points 1 and 24 to 27: the hall."""

import unittest

from tentloops.counts import traced
from tentloops.errors import (
    BadName, Locked, NoCounts, NoDeed, NoFraction, NoSeam, NoTent, NoThread, NoWay, Rim, Taken, TooGreat, TooMany,
    Uneven, Unknown, Wide,
)
from tentloops.hall import Hall
from tentloops.tents import Tent
from oracles import family_by_arcs, free_by_words, spots
from model import ModelHall, answers_of, dealt_deed, done_in, small_hall
from samples import (
    ALL, BALL, CONE, FLAP, HEAP, KITE, MIXED, POUCH, PRETZEL, TORUS, WAYS, band, dealer, dealt_counts, many_tents,
    noughts, scattered, wandered,
)

TOP = 10 ** 60
GREAT = 10 ** 5000


class FirstTest(unittest.TestCase):

    def test_a_new_hall(self):
        for rows in many_tents():
            hall = Hall(rows)
            self.assertEqual((hall.deeds(), hall.names(), hall.families()), ([], [], []))
            self.assertEqual((hall.first_rows(), hall.tent_rows()), (rows, rows))
            self.assertEqual(hall.numbers(), noughts(rows))
            sewn = [name for name, places in spots(rows).items() if len(places) == 2]
            self.assertEqual(hall.fractions(), {name: (1, 1) for name in sewn})

    def test_no_tent(self):
        for rows in ([], [(0, 0, 0)], [(0, 1, -1)], [(0, 1, 10000)], [(0, 1, 2), (0, 0, 3)], [(GREAT, 0, 1)]):
            self.assertRaises(NoTent, Hall, rows)

    def test_deeds_tell_none(self):
        hall = Hall(TORUS)
        self.assertIsNone(hall.lay("a", [0, 4]))
        self.assertIsNone(hall.pour("b", noughts(TORUS)))
        self.assertIsNone(hall.lift("b"))
        self.assertIsNone(hall.weigh(0, 1, 2))
        self.assertIsNone(hall.turn(0, "left"))
        self.assertIsNone(hall.back())
        self.assertIsNone(hall.again())

    def test_by_hand(self):
        hall = small_hall()
        self.assertEqual(hall.deeds(), ["lay a 0 4", "pour pool 0:1 1:2 2:3", "weigh 1 2/3"])
        self.assertEqual((hall.names(), hall.families()), (["a"], ["pool"]))
        self.assertEqual((hall.thread("a"), hall.pool("pool")), ([0, 4], {0: 1, 1: 2, 2: 3}))
        self.assertEqual(hall.numbers(), {0: 2, 1: 3, 2: 3})
        self.assertEqual(hall.fractions(), {0: (1, 1), 1: (2, 3), 2: (1, 1)})
        # Right: 1 0 / 1 1; then 2 2 / 2 5: 49 over 6.
        self.assertEqual(hall.worth_of("a"), (49, 6))
        self.assertEqual(hall.pool_threads("pool"), traced(Tent(TORUS), {0: 1, 1: 2, 2: 3}))

    def test_a_turn_by_hand(self):
        hall = small_hall()
        hall.turn(0, "left")
        self.assertEqual(hall.tent_rows(), [(0, 2, 1), (0, 2, 1)])
        self.assertEqual(hall.first_rows(), TORUS)
        self.assertEqual(hall.thread("a"), [2, 3])
        self.assertEqual(hall.pool("pool"), {0: 5, 1: 2, 2: 3})
        self.assertEqual(hall.fractions(), {0: (1, 1), 1: (8, 3), 2: (1, 4)})
        self.assertEqual(hall.numbers(), {0: 6, 1: 3, 2: 3})
        self.assertEqual(hall.worth_of("a"), (49, 6))
        self.assertEqual(hall.deeds()[-1], "turn 0 left")

    def test_several_threads_and_families(self):
        hall = Hall(HEAP)
        hall.lay("z", [9])
        hall.lay("b", [0, 7])
        hall.pour("y", {**noughts(HEAP), 0: 1, 1: 1})
        hall.pour("c", {**noughts(HEAP), 30: 5})
        hall.lay("m", [10, 10])
        self.assertEqual((hall.names(), hall.families()), (["b", "m", "z"], ["c", "y"]))
        self.assertEqual(hall.numbers(), {**noughts(HEAP), 0: 2, 1: 2, 30: 8})
        hall.turn(0, "right")
        self.assertEqual((hall.thread("z"), hall.thread("m")), ([9], [10, 10]))
        self.assertEqual(hall.pool("c"), {**noughts(HEAP), 30: 5})


class NameTest(unittest.TestCase):

    def test_one_and_eight_letters(self):
        hall = Hall(TORUS)
        for name in ("a", "z", "abcdefgh", "zzzzzzzz", "mnopqr"):
            hall.lay(name, [0, 4])
        for name in ("b", "y", "abcdefgi", "zzzzzzzy"):
            hall.pour(name, noughts(TORUS))
        self.assertEqual(hall.names(), ["a", "abcdefgh", "mnopqr", "z", "zzzzzzzz"])
        self.assertEqual(hall.families(), ["abcdefgi", "b", "y", "zzzzzzzy"])

    def test_bad_name(self):
        hall = small_hall()
        for name in ("", "abcdefghi", "A", "aB", "a1", "1", "a b", " a", "a ", "a_b", "a\n", "-", "{", "`", "~"):
            for word in ([0, 4], [], [0]):
                self.assertRaises(BadName, hall.lay, name, word)
            for counts in (noughts(TORUS), {}, {0: 1, 1: 1, 2: 1}):
                self.assertRaises(BadName, hall.pour, name, counts)
        self.assertEqual(len(hall.deeds()), 3)

    def test_taken(self):
        hall = small_hall()
        for name in ("a", "pool"):
            for word in ([0, 4], [], [0], [0, 4] * 201):
                self.assertRaises(Taken, hall.lay, name, word)
            for counts in (noughts(TORUS), {}, {0: 1, 1: 1, 2: 1}, {0: 2, 1: 0, 2: 0}):
                self.assertRaises(Taken, hall.pour, name, counts)

    def test_a_lifted_name_is_given_again(self):
        hall = small_hall()
        hall.lift("a")
        hall.pour("a", {0: 1, 1: 1, 2: 0})
        hall.lift("pool")
        hall.lay("pool", [1, 5])
        self.assertEqual((hall.names(), hall.families()), (["pool"], ["a"]))
        self.assertEqual((hall.thread("pool"), hall.pool("a")), ([1, 5], {0: 1, 1: 1, 2: 0}))
        self.assertRaises(Taken, hall.lay, "a", [0, 4])
        self.assertRaises(Unknown, hall.thread, "a")
        self.assertEqual(hall.deeds()[-4:], ["lift a", "pour a 0:1 1:1 2:0", "lift pool", "lay pool 1 5"])

    def test_a_name_taken_back_is_free(self):
        hall = Hall(TORUS)
        hall.lay("a", [0, 4])
        hall.back()
        hall.pour("a", noughts(TORUS))
        self.assertEqual((hall.names(), hall.families()), ([], ["a"]))


class LayTest(unittest.TestCase):

    def test_no_thread(self):
        hall = Hall(TORUS)
        for word in ([], [0], [0, 3], [0, 4, 2], [6], [-1, 4], [GREAT], [0, 4] * 200 + [0]):
            self.assertRaises(NoThread, hall.lay, "a", word)
        self.assertEqual((hall.deeds(), hall.names()), ([], []))

    def test_no_thread_goes_ahead_of_too_many(self):
        self.assertRaises(NoThread, Hall(TORUS).lay, "a", [0, 4] * 250 + [0])
        self.assertRaises(NoThread, Hall(CONE).lay, "a", [2] * 401)

    def test_four_hundred_places_and_one_more(self):
        hall = Hall(CONE)
        hall.lay("a", [0] * 400)
        self.assertRaises(TooMany, hall.lay, "b", [0] * 401)
        self.assertRaises(TooMany, hall.lay, "b", [0] * 2000)
        self.assertEqual((hall.names(), hall.thread("a")), (["a"], [0] * 400))
        hall = Hall(TORUS)
        self.assertRaises(TooMany, hall.lay, "b", [0, 4] * 201)
        hall.lay("b", [0, 4] * 200)

    def test_in_the_tent_as_it_is(self):
        hall = Hall(TORUS)
        hall.turn(0, "left")
        hall.weigh(0, 3, 1)
        self.assertRaises(NoThread, hall.lay, "a", [0])
        hall = Hall(BALL)
        self.assertRaises(NoThread, hall.lay, "a", [5, 2])
        hall.turn(2, "left")
        hall.lay("a", [5, 2])
        self.assertEqual(hall.thread("a"), [5, 2])


class PourTest(unittest.TestCase):

    def test_refusals(self):
        hall = Hall(TORUS)
        for counts in ({}, {0: 2, 1: 2}, {0: 2, 1: 2, 2: 2, 3: 0}, {0: -2, 1: 2, 2: 4}, {0: -1, 1: 0, 2: 0}):
            self.assertRaises(NoCounts, hall.pour, "a", counts)
        self.assertRaises(NoCounts, Hall(CONE).pour, "a", {5: 1, 7: 1})
        for counts in ({0: 1, 1: 1, 2: 1}, {0: 5, 1: 0, 2: 0}):
            self.assertRaises(Uneven, hall.pour, "a", counts)
        self.assertRaises(Wide, hall.pour, "a", {0: 2, 1: 0, 2: 0})
        self.assertEqual((hall.deeds(), hall.families()), ([], []))

    def test_whatever_the_sum(self):
        hall = Hall(TORUS)
        hall.pour("a", {0: 300, 1: 300, 2: 0})
        hall.pour("b", {0: 300, 1: 301, 2: 1})
        hall.pour("c", {0: 10 ** 61 - 1, 1: 10 ** 61 - 1, 2: 0})
        self.assertEqual(hall.pool_threads("a"), [[0, 4]] * 300)
        for name in ("b", "c"):
            self.assertRaises(TooMany, hall.pool_threads, name)
        self.assertEqual(hall.pool("b"), {0: 300, 1: 301, 2: 1})
        self.assertEqual(hall.numbers(), {0: 599 + 10 ** 61, 1: 600 + 10 ** 61, 2: 1})
        hall.turn(2, "left")
        self.assertEqual(hall.pool("c")[2], 2 * 10 ** 61 - 2)
        self.assertEqual(hall.pool("b")[2], 601)
        self.assertRaises(TooMany, hall.pool_threads, "a")
        hall.turn(2, "left")
        self.assertEqual(len(hall.pool_threads("a")), 300)

    def test_all_nought(self):
        for rows in ALL:
            hall = Hall(rows)
            hall.pour("a", noughts(rows))
            self.assertEqual((hall.pool("a"), hall.pool_threads("a")), (noughts(rows), []))

    def test_the_text_has_rising_seams(self):
        hall = Hall([(11, 9, 100), (11, 9, 100)])
        hall.pour("a", {100: 3, 11: 1, 9: 2})
        self.assertEqual(hall.deeds(), ["pour a 9:2 11:1 100:3"])

    def test_great_numbers_are_written_out(self):
        hall = Hall(TORUS)
        hall.pour("a", {0: GREAT, 1: GREAT, 2: 0})
        self.assertEqual(hall.deeds(), ["pour a 0:1{0} 1:1{0} 2:0".format("0" * 5000)])

    def test_pool_threads_against_the_words(self):
        for number, rows in enumerate(many_tents()):
            counts = dealt_counts(rows, number, 1)
            if sum(counts.values()) <= 600:
                hall = Hall(rows)
                hall.pour("a", counts)
                self.assertEqual(hall.pool_threads("a"), family_by_arcs(rows, counts))


class LiftTest(unittest.TestCase):

    def test_either(self):
        hall = small_hall()
        hall.lift("a")
        self.assertEqual((hall.names(), hall.families(), hall.numbers()), ([], ["pool"], {0: 1, 1: 2, 2: 3}))
        hall.lift("pool")
        self.assertEqual((hall.names(), hall.families(), hall.numbers()), ([], [], noughts(TORUS)))

    def test_only_this_name(self):
        hall = Hall(TORUS)
        for name in ("a", "ab", "b"):
            hall.lay(name, [0, 4])
        hall.lift("ab")
        self.assertEqual(hall.names(), ["a", "b"])

    def test_unknown(self):
        hall = small_hall()
        # A name of another form is no other's: Unknown too.
        for name in ("b", "", "A", "abcdefghij", "pools", "a "):
            self.assertRaises(Unknown, hall.lift, name)
        hall.lift("a")
        self.assertRaises(Unknown, hall.lift, "a")
        self.assertRaises(Unknown, Hall(FLAP).lift, "a")


class WeighTest(unittest.TestCase):

    def test_lowest_terms(self):
        hall = Hall(TORUS)
        hall.weigh(0, 6, 4)
        hall.weigh(1, 5, 5)
        hall.weigh(2, 7, 1)
        self.assertEqual(hall.fractions(), {0: (3, 2), 1: (1, 1), 2: (7, 1)})
        self.assertEqual(hall.deeds(), ["weigh 0 3/2", "weigh 1 1/1", "weigh 2 7/1"])

    def test_a_locked_seam(self):
        hall = Hall(CONE)
        hall.weigh(5, 2, 3)
        hall.lay("a", [0])
        self.assertEqual((hall.fractions(), hall.worth_of("a")), ({5: (2, 3)}, (25, 6)))

    def test_again_and_again(self):
        hall = Hall(KITE)
        hall.weigh(0, 2, 3)
        hall.weigh(0, 5, 1)
        self.assertEqual((hall.fractions(), hall.deeds()), ({0: (5, 1)}, ["weigh 0 2/3", "weigh 0 5/1"]))

    def test_just_the_greatest_part_and_one_above(self):
        for top, bottom, wanted in ((TOP, 1, (TOP, 1)), (1, TOP, (1, TOP)), (TOP, TOP - 1, (TOP, TOP - 1)),
                                    (2 * TOP, 2, (TOP, 1)), (3, 3 * TOP, (1, TOP)), (2 * TOP + 2, TOP + 1, (2, 1)),
                                    (TOP + 1, TOP + 1, (1, 1)), (GREAT, GREAT, (1, 1))):
            hall = Hall(TORUS)
            hall.weigh(0, top, bottom)
            self.assertEqual(hall.fractions()[0], wanted)
        for top, bottom in ((TOP + 1, 1), (1, TOP + 1), (TOP + 1, TOP), (TOP, TOP + 1), (2 * TOP + 2, 2),
                            (3, 3 * TOP + 3), (GREAT, 1), (1, GREAT), (GREAT + 1, GREAT)):
            hall = Hall(TORUS)
            self.assertRaises(TooGreat, hall.weigh, 0, top, bottom)
            self.assertEqual((hall.fractions()[0], hall.deeds()), ((1, 1), []))

    def test_refusals_in_their_order(self):
        hall = Hall(MIXED)
        for top, bottom in ((1, 1), (0, 1), (1, 0), (-1, -1), (TOP + 1, 1), (0, TOP + 1)):
            for seam in (77, -1, 10000, GREAT):
                self.assertRaises(NoSeam, hall.weigh, seam, top, bottom)
            for seam in (1, 2, 3):
                self.assertRaises(Rim, hall.weigh, seam, top, bottom)
        for seam in (6, 8, 9):
            for top, bottom in ((0, 1), (1, 0), (-1, 1), (1, -1), (-2, -2), (0, TOP + 1), (TOP + 1, 0), (-GREAT, 1)):
                self.assertRaises(NoFraction, hall.weigh, seam, top, bottom)
        self.assertEqual(hall.fractions(), {6: (1, 1), 8: (1, 1), 9: (1, 1)})


class TurnTest(unittest.TestCase):

    def test_refusals_in_their_order(self):
        hall = Hall(MIXED)
        for way in ("", "up", "Left", "left "):
            for seam in (6, 77, 1, 9, GREAT):
                self.assertRaises(NoWay, hall.turn, seam, way)
        for way in WAYS:
            for seam in (77, -1, GREAT):
                self.assertRaises(NoSeam, hall.turn, seam, way)
            for seam in (1, 2, 3):
                self.assertRaises(Rim, hall.turn, seam, way)
            self.assertRaises(Locked, hall.turn, 9, way)
        self.assertEqual((hall.deeds(), hall.tent_rows()), ([], MIXED))

    def test_four_hundred_places_and_one_more(self):
        # On the pouch a thread of 399 places gets two more; on the torus one gets twice as long.
        hall = Hall(POUCH)
        hall.lay("a", [2, 4] * 198 + [2, 5, 7])
        before = answers_of(hall)
        self.assertRaises(TooMany, hall.turn, 0, "left")
        self.assertEqual(answers_of(hall), before)
        hall = Hall(TORUS)
        hall.lay("a", [1, 5] * 100)
        hall.turn(0, "left")
        self.assertEqual(hall.thread("a"), [5, 0, 4, 0] * 100)
        hall = Hall(TORUS)
        hall.lay("short", [0, 4])
        hall.lay("a", [1, 5] * 101)
        self.assertRaises(TooMany, hall.turn, 0, "left")
        self.assertEqual((hall.thread("short"), hall.tent_rows()), ([0, 4], TORUS))
        # Once it is lifted the turn can be done.
        hall.lift("a")
        hall.turn(0, "left")
        self.assertEqual(hall.thread("short"), [2, 3])

    def test_just_the_greatest_part_and_one_above(self):
        # Seam 8 is multiplied by z / (1 + z), and all others around seam 6 are rims.
        hall = Hall(MIXED)
        hall.weigh(6, 1, TOP - 1)
        hall.turn(6, "left")
        self.assertEqual(hall.fractions(), {6: (TOP - 1, 1), 8: (1, TOP), 9: (1, 1)})
        hall = Hall(MIXED)
        hall.weigh(6, 1, TOP)
        before = answers_of(hall)
        self.assertRaises(TooGreat, hall.turn, 6, "left")
        self.assertEqual(answers_of(hall), before)

    def test_a_part_is_meant_in_lowest_terms(self):
        # 10 ** 60 + 1 is a multiple of 73.
        hall = Hall(MIXED)
        hall.weigh(6, 1, TOP)
        hall.weigh(8, 73, 1)
        hall.turn(6, "right")
        self.assertEqual(hall.fractions()[8], (1, (TOP + 1) // 73))

    def test_a_top_that_would_be_too_great(self):
        # Seam 8's own exchange multiplies seam 6, which is after its lesser place.
        hall = Hall(MIXED)
        hall.weigh(6, TOP // 2, 1)
        hall.turn(8, "left")
        self.assertEqual(hall.fractions()[6], (TOP, 1))
        hall = Hall(MIXED)
        hall.weigh(6, TOP // 2 + 1, 1)
        self.assertRaises(TooGreat, hall.turn, 8, "left")

    def test_too_many_goes_ahead_of_too_great(self):
        hall = Hall(MIXED)
        hall.lay("a", [7] * 201)
        hall.weigh(6, TOP, 1)
        self.assertRaises(TooMany, hall.turn, 8, "left")
        hall.lift("a")
        self.assertRaises(TooGreat, hall.turn, 8, "left")
        self.assertRaises(NoWay, hall.turn, 8, "up")

    def test_left_and_right(self):
        hall = small_hall()
        hall.turn(0, "left")
        hall.turn(0, "right")
        self.assertEqual(hall.tent_rows(), TORUS)
        self.assertEqual((hall.pool("pool"), hall.fractions()), ({0: 1, 1: 2, 2: 3}, {0: (1, 1), 1: (2, 3), 2: (1, 1)}))
        # Point 11: the list begins with what its first place left became.
        self.assertEqual(hall.thread("a"), [4, 0])
        self.assertEqual(hall.deeds()[-2:], ["turn 0 left", "turn 0 right"])


class BackTest(unittest.TestCase):

    def test_no_deed(self):
        hall = Hall(TORUS)
        self.assertRaises(NoDeed, hall.back)
        self.assertRaises(NoDeed, hall.again)
        hall.lay("a", [0, 4])
        self.assertRaises(NoDeed, hall.again)
        hall.back()
        self.assertRaises(NoDeed, hall.back)
        hall.again()
        self.assertRaises(NoDeed, hall.again)
        self.assertEqual(hall.deeds(), ["lay a 0 4"])

    def test_each_deed_with_all_that_it_changed(self):
        hall = Hall(TORUS)
        states = [answers_of(hall)]
        hall.lay("a", [0, 4])
        states.append(answers_of(hall))
        hall.pour("b", {0: 1, 1: 2, 2: 3})
        states.append(answers_of(hall))
        hall.weigh(0, 6, 4)
        states.append(answers_of(hall))
        hall.turn(0, "left")
        states.append(answers_of(hall))
        hall.turn(0, "right")
        states.append(answers_of(hall))
        hall.lift("a")
        states.append(answers_of(hall))
        hall.lift("b")
        states.append(answers_of(hall))
        for rounds in range(2):
            for state in reversed(states[:-1]):
                hall.back()
                self.assertEqual(answers_of(hall), state)
            self.assertRaises(NoDeed, hall.back)
            for state in states[1:]:
                hall.again()
                self.assertEqual(answers_of(hall), state)
            self.assertRaises(NoDeed, hall.again)

    def test_the_list_of_a_thread_comes_back_as_it_was(self):
        hall = small_hall()
        hall.turn(0, "left")
        hall.back()
        self.assertEqual(hall.thread("a"), [0, 4])
        hall.again()
        self.assertEqual(hall.thread("a"), [2, 3])

    def test_a_refused_deed_forgets_nothing(self):
        hall = small_hall()
        hall.turn(0, "left")
        wanted = answers_of(hall)
        hall.back()
        hall.back()
        self.assertRaises(Taken, hall.lay, "a", [0, 4])
        self.assertRaises(NoThread, hall.lay, "x", [0])
        self.assertRaises(Uneven, hall.pour, "x", {0: 1, 1: 0, 2: 0})
        self.assertRaises(Unknown, hall.lift, "x")
        self.assertRaises(NoFraction, hall.weigh, 0, 0, 1)
        self.assertRaises(NoSeam, hall.turn, 9, "left")
        self.assertRaises(Unknown, hall.thread, "x")
        hall.again()
        hall.again()
        self.assertEqual(answers_of(hall), wanted)
        self.assertRaises(NoDeed, hall.again)

    def test_a_refused_back_or_again_changes_nothing(self):
        hall = small_hall()
        before = answers_of(hall)
        self.assertRaises(NoDeed, hall.again)
        self.assertEqual(answers_of(hall), before)
        for deed in range(3):
            hall.back()
        self.assertRaises(NoDeed, hall.back)
        for deed in range(3):
            hall.again()
        self.assertEqual(answers_of(hall), before)

    def test_each_new_deed_forgets_those_taken_back(self):
        for deed in (("lay", "x", [0, 4]), ("pour", "x", noughts(TORUS)), ("lift", "a"), ("weigh", 0, 1, 1),
                     ("turn", 1, "right")):
            hall = small_hall()
            hall.turn(0, "left")
            hall.back()
            hall.back()
            done_in(hall, deed)
            before = answers_of(hall)
            self.assertRaises(NoDeed, hall.again)
            self.assertEqual(answers_of(hall), before)
            hall.back()
            self.assertEqual(len(hall.deeds()), 2)
            hall.again()
            self.assertEqual(answers_of(hall), before)

    def test_back_and_again_forget_nothing(self):
        hall = small_hall()
        wanted = answers_of(hall)
        hall.back()
        hall.back()
        hall.again()
        hall.back()
        hall.again()
        hall.again()
        self.assertEqual(answers_of(hall), wanted)


class QuestionTest(unittest.TestCase):

    def test_unknown(self):
        hall = small_hall()
        for name in ("b", "", "A", "abcdefghij"):
            for ask in (hall.thread, hall.pool, hall.pool_threads, hall.worth_of):
                self.assertRaises(Unknown, ask, name)
            self.assertRaises(Unknown, hall.same, "a", name)
            self.assertRaises(Unknown, hall.same, name, "a")
            self.assertRaises(Unknown, hall.same, name, name)

    def test_a_family_is_no_thread_and_a_thread_no_family(self):
        hall = small_hall()
        for ask in (hall.thread, hall.worth_of):
            self.assertRaises(Unknown, ask, "pool")
        for ask in (hall.pool, hall.pool_threads):
            self.assertRaises(Unknown, ask, "a")
        self.assertRaises(Unknown, hall.same, "a", "pool")
        self.assertRaises(Unknown, hall.same, "pool", "a")
        self.assertRaises(Unknown, hall.same, "pool", "pool")

    def test_same(self):
        hall = Hall(TORUS)
        hall.lay("a", [0, 4])
        hall.lay("b", [3, 1])
        hall.lay("c", [1, 5])
        hall.lay("d", [0, 4, 0, 4])
        self.assertIs(hall.same("a", "b"), True)
        self.assertIs(hall.same("a", "a"), True)
        self.assertIs(hall.same("a", "c"), False)
        self.assertIs(hall.same("a", "d"), False)
        for seam in (0, 1, 2, 0):
            hall.turn(seam, "left")
            self.assertEqual([hall.same("a", name) for name in "abcd"], [True, True, False, False])

    def test_worth_as_the_fractions_are_then(self):
        hall = Hall(TORUS)
        hall.lay("a", [0, 4])
        self.assertEqual(hall.worth_of("a"), (9, 1))
        hall.weigh(1, 2, 3)
        self.assertEqual(hall.worth_of("a"), (49, 6))
        hall.turn(0, "left")
        self.assertEqual(hall.worth_of("a"), (49, 6))
        hall.back()
        hall.back()
        self.assertEqual(hall.worth_of("a"), (9, 1))

    def test_kinds_of_values(self):
        hall = small_hall()
        for told in (hall.deeds(), hall.names(), hall.families(), hall.first_rows(), hall.tent_rows(),
                     hall.thread("a"), hall.pool_threads("pool")):
            self.assertIs(type(told), list)
        for told in (hall.pool("pool"), hall.numbers(), hall.fractions()):
            self.assertIs(type(told), dict)
        pairs = [hall.worth_of("a")] + list(hall.fractions().values()) + hall.first_rows() + hall.tent_rows()
        self.assertTrue(all(type(pair) is tuple for pair in pairs))

    def test_a_thread_of_400_places_with_great_parts(self):
        hall = Hall(TORUS)
        hall.lay("a", [0, 5, 0, 4] * 100)
        hall.weigh(0, TOP, TOP - 1)
        hall.weigh(1, 3 ** 120, 7 ** 70)
        first = hall.worth_of("a")
        self.assertTrue(first[0] >= 4 * first[1])
        self.assertIs(hall.same("a", "a"), True)


class ModelTest(unittest.TestCase):

    def run_against_the_model(self, rows, seed, steps):
        deal, hall, model = dealer(seed), Hall(rows), ModelHall(rows)
        for step in range(steps):
            deed = dealt_deed(deal, model)
            why = model.refusal(deed)
            if why is None:
                done_in(hall, deed)
                self.done += 1
            else:
                with self.assertRaises(why) as caught:
                    done_in(hall, deed)
                self.assertIs(type(caught.exception), why)
                self.refused.add(why)
            self.assertEqual(answers_of(hall), model.answers())

    def test_against_the_words(self):
        self.done, self.refused = 0, set()
        for number, rows in enumerate([TORUS, BALL, MIXED, POUCH, HEAP, CONE, KITE, FLAP, PRETZEL, scattered(5, 4)]):
            for seed in range(3):
                self.run_against_the_model(rows, 100 * number + seed, 25)
        self.assertGreater(self.done, 300)
        for why in (BadName, Taken, NoThread, Unknown, NoSeam, Rim, Locked, NoWay, NoDeed, NoFraction, NoCounts):
            self.assertIn(why, self.refused)

    def test_worths_stay_whatever_is_turned(self):
        turns = 0
        for number, rows in enumerate([TORUS, BALL, MIXED, POUCH, PRETZEL, scattered(9, 9), band(40)]):
            deal, hall = dealer(number), Hall(rows)
            for k, word in enumerate(wandered(rows, number, 20)[:3]):
                hall.lay("abc"[k], word)
            for name in hall.fractions():
                hall.weigh(name, deal(5) + 1, deal(5) + 1)
            wanted = {name: hall.worth_of(name) for name in hall.names()}
            for step in range(12):
                free = free_by_words(hall.tent_rows())
                try:
                    hall.turn(free[deal(len(free))], WAYS[deal(2)])
                    turns += 1
                except (TooMany, TooGreat):
                    break
                self.assertEqual({name: hall.worth_of(name) for name in hall.names()}, wanted)
        self.assertGreater(turns, 50)


class KeepsNothingTest(unittest.TestCase):

    def test_what_is_handed_in_stays(self):
        rows, word, counts = list(TORUS), [0, 4], {2: 3, 1: 2, 0: 1}
        hall = Hall(rows)
        hall.lay("a", word)
        hall.pour("b", counts)
        hall.turn(0, "left")
        hall.back()
        answers_of(hall)
        self.assertEqual((rows, word, list(counts.items())), (TORUS, [0, 4], [(2, 3), (1, 2), (0, 1)]))

    def test_what_was_handed_in_is_not_kept(self):
        rows, word, counts = list(TORUS), [0, 4], {0: 1, 1: 2, 2: 3}
        hall = Hall(rows)
        hall.lay("a", word)
        hall.pour("b", counts)
        wanted = answers_of(hall)
        rows[0] = (7, 8, 9)
        rows.clear()
        word[0] = 5
        word.append(3)
        counts[0] = 77
        counts.clear()
        self.assertEqual(answers_of(hall), wanted)
        hall.turn(0, "left")
        self.assertEqual((hall.thread("a"), hall.pool("b")), ([2, 3], {0: 5, 1: 2, 2: 3}))
        hall.back()
        self.assertEqual(answers_of(hall), wanted)
        hall.back()
        hall.back()
        hall.again()
        hall.again()
        self.assertEqual(answers_of(hall), wanted)

    def spoil_all(self, hall):
        """Change all lists and dicts that a hall tells."""
        for told in (hall.deeds(), hall.first_rows(), hall.tent_rows(), hall.names(), hall.families(),
                     hall.thread("a"), hall.pool_threads("pool")):
            told.append("x")
            if isinstance(told[0], list):
                told[0].append(5)
            told[0] = "y"
            told.clear()
        for told in (hall.pool("pool"), hall.numbers(), hall.fractions()):
            told[0] = 99
            told[77] = 5
            told.clear()

    def test_what_was_told_is_not_kept(self):
        hall = small_hall()
        for deed in (("turn", 0, "left"), ("turn", 1, "right"), ("weigh", 2, 5, 5), ("back",), ("back",), ("again",)):
            wanted, family = answers_of(hall), hall.pool_threads("pool")
            self.spoil_all(hall)
            self.assertEqual((answers_of(hall), hall.pool_threads("pool")), (wanted, family))
            done_in(hall, deed)

    def test_what_was_told_earlier_does_not_change(self):
        hall = small_hall()
        told = (hall.deeds(), hall.thread("a"), hall.pool("pool"), hall.fractions(), hall.tent_rows(), hall.names())
        hall.turn(0, "left")
        hall.lift("a")
        self.assertEqual(told, (["lay a 0 4", "pour pool 0:1 1:2 2:3", "weigh 1 2/3"], [0, 4], {0: 1, 1: 2, 2: 3},
                                {0: (1, 1), 1: (2, 3), 2: (1, 1)}, TORUS, ["a"]))

    def test_two_halls_of_one_list_are_apart(self):
        one, other = Hall(TORUS), Hall(TORUS)
        one.lay("a", [0, 4])
        one.turn(0, "left")
        one.weigh(0, 2, 1)
        self.assertEqual(answers_of(other), answers_of(Hall(TORUS)))


if __name__ == "__main__":
    unittest.main()
