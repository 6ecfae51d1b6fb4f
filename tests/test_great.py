"""Points 3 to 30 with numbers that Python does not write out: the refusal that is due comes all the same."""

import unittest

from tentloops.book import answered, read, written
from tentloops.counts import flow, led, look_counts, tally, traced
from tentloops.easing import eased, led_along
from tentloops.errors import (
    BadOrder, NoCounts, NoFraction, NoPlace, NoSeam, NoTent, NoThread, NoWay, NoWorths, NotAlike, TooGreat, TooMany,
    Uneven, Wide,
)
from tentloops.exchange import driven, exchanged, moved, square, undoing
from tentloops.hall import Hall
from tentloops.matching import carried
from tentloops.pulling import pulled, pulled_along
from tentloops.rounds import about
from tentloops.stretch import even_worths, fraction, stretched, worth
from tentloops.tents import Tent, after, before
from tentloops.words import alike, backward, least, letters, plain, times, turned, walked
from samples import ALL, BALL, CONE, TORUS, WAYS

GREAT = 10 ** 5000
NUMBERS = (GREAT, GREAT + 1, -GREAT, 10 ** 4300, -(10 ** 4300))


def each():
    """Each tent with each number."""
    return [(Tent(rows), number) for rows in ALL for number in NUMBERS]


class GreatNumbersTest(unittest.TestCase):

    def test_python_does_not_write_them_out(self):
        for number in NUMBERS:
            self.assertRaises(ValueError, str, number)

    def test_no_tent(self):
        for number in NUMBERS:
            for rows in ([(number, 0, 1)], [(0, 1, 2), (3, number, number)], [(number, number, number)]):
                self.assertRaises(NoTent, Tent, rows)

    def test_no_place(self):
        for tent, number in each():
            self.assertRaises(NoPlace, tent.seam_at, number)
            self.assertRaises(NoPlace, tent.mate, number)
            self.assertRaises(NoPlace, walked, tent, number, "")
            self.assertRaises(NoPlace, walked, tent, number, "LR")
        for number in NUMBERS:
            for way in WAYS:
                self.assertRaises(NoPlace, moved, Tent(TORUS), 0, way, number)

    def test_no_seam(self):
        for tent, number in each():
            for ask in (tent.places, tent.sort_of):
                self.assertRaises(NoSeam, ask, number)
            self.assertRaises(NoSeam, square, tent, number)
            for way in WAYS:
                self.assertRaises(NoSeam, exchanged, tent, number, way)
                self.assertRaises(NoSeam, moved, tent, number, way, number)
                self.assertRaises(NoSeam, driven, tent, [(number, way)])
            self.assertRaises(NoWay, exchanged, tent, number, "up")
            self.assertRaises(NoWay, undoing, [(number, "up")])

    def test_no_thread(self):
        for tent, number in each():
            for word in ([number], [number, 0], [0, number]):
                self.assertIs(plain(tent, word), False)
                for ask in (backward, least, times, letters):
                    self.assertRaises(NoThread, ask, tent, word)
                self.assertRaises(NoThread, alike, tent, word, word)

    def test_no_seam_of_a_thread_or_of_numbers(self):
        for number in NUMBERS:
            tent, word, counts = Tent(TORUS), [0, 4], {0: 1, 1: 1, 2: 0}
            for way in WAYS:
                self.assertRaises(NoSeam, pulled, tent, number, way, word)
                self.assertRaises(NoSeam, pulled_along, tent, [(0, way), (number, way)], word)
                self.assertRaises(NoSeam, led_along, tent, [(0, way), (number, way)], counts)
            self.assertRaises(NoSeam, led, tent, counts, number)

    def test_no_thread_for_pulling_and_counting(self):
        for number in NUMBERS:
            for word in ([number], [0, number], [number, 4]):
                self.assertRaises(NoThread, pulled, Tent(TORUS), 0, "left", word)
                self.assertRaises(NoThread, pulled_along, Tent(TORUS), [], word)
                self.assertRaises(NoThread, tally, Tent(TORUS), word)
                self.assertRaises(NoThread, flow, Tent(TORUS), word)

    def refuse_counts(self, kind, counts):
        for ask in (look_counts, traced, eased):
            self.assertRaises(kind, ask, Tent(TORUS), counts)
        self.assertRaises(kind, led, Tent(TORUS), counts, 0)
        self.assertRaises(kind, led_along, Tent(TORUS), [(9, "up")], counts)

    def test_refusals_of_numbers(self):
        for number in NUMBERS:
            self.refuse_counts(NoCounts, {0: 0, 1: 0, number: 0})
            self.refuse_counts(NoCounts, {0: 0, 1: 0, 2: 0, number: number})
        self.refuse_counts(NoCounts, {0: -GREAT, 1: GREAT, 2: 0})
        self.refuse_counts(Uneven, {0: GREAT, 1: GREAT, 2: 1})
        self.refuse_counts(Wide, {0: GREAT, 1: GREAT + 2, 2: 0})
        self.assertRaises(NoCounts, look_counts, Tent(CONE), {5: 0, 7: GREAT})
        for ask in (traced, eased):
            self.assertRaises(TooMany, ask, Tent(TORUS), {0: GREAT, 1: GREAT, 2: 0})

    def test_no_corner(self):
        for tent, number in each():
            self.assertRaises(NoPlace, about, tent, number)

    def test_what_is_not_refused(self):
        self.assertTrue(led(Tent(TORUS), {0: GREAT, 1: GREAT, 2: 0}, 2) == {0: GREAT, 1: GREAT, 2: 2 * GREAT})
        self.assertEqual((after(3 * GREAT), after(3 * GREAT + 2)), (3 * GREAT + 1, 3 * GREAT))
        self.assertEqual((before(3 * GREAT), before(3 * GREAT + 2)), (3 * GREAT + 2, 3 * GREAT + 1))
        self.assertEqual((turned([1, 2], GREAT + 1), turned([1, 2], -GREAT)), ([2, 1], [1, 2]))
        self.assertEqual(undoing([(GREAT, "left")]), [(GREAT, "right")])

    def test_refusals_of_fractions(self):
        tent = Tent(TORUS)
        for number in NUMBERS:
            self.assertRaises(NoSeam, stretched, tent, {}, number)
            self.assertRaises(NoThread, worth, tent, {}, [0, number])
            for ask, more in ((stretched, 0), (worth, [0, 4])):
                self.assertRaises(NoWorths, ask, tent, {**even_worths(tent), number: (1, 1)}, more)
                self.assertRaises(NoWorths, ask, tent, {0: (number, number)}, more)
            # abs: a great part is not refused, but one below 1 is.
            for pair in ((-abs(number), 1), (1, -abs(number)), (abs(number), 0), (-abs(number), -abs(number))):
                self.assertRaises(NoFraction, fraction, *pair)
                self.assertRaises(NoFraction, stretched, tent, {**even_worths(tent), 2: pair}, 0)
                self.assertRaises(NoFraction, worth, tent, {**even_worths(tent), 2: pair}, [0, 4])

    def test_carried(self):
        for number in NUMBERS:
            self.assertRaises(NoPlace, carried, Tent(TORUS), Tent(TORUS), [number])
            self.assertRaises(NotAlike, carried, Tent(TORUS), Tent(BALL), [number])

    def test_refusals_of_a_hall(self):
        for number in NUMBERS:
            self.assertRaises(NoTent, Hall, [(0, 1, number)])
            hall = Hall(TORUS)
            self.assertRaises(NoThread, hall.lay, "a", [0, number])
            self.assertRaises(NoCounts, hall.pour, "a", {0: 0, 1: 0, 2: 0, number: number})
            self.assertRaises(NoSeam, hall.weigh, number, number, number)
            self.assertRaises(NoSeam, hall.turn, number, "left")
            self.assertRaises(NoWay, hall.turn, number, "up")
            self.assertRaises(NoFraction, hall.weigh, 0, -abs(number), abs(number))
            self.assertRaises(TooGreat, hall.weigh, 0, abs(number), 1)
            self.assertEqual(hall.deeds(), [])
        self.assertRaises(Uneven, Hall(TORUS).pour, "a", {0: GREAT, 1: GREAT, 2: 1})
        self.assertRaises(Wide, Hall(TORUS).pour, "a", {0: GREAT, 1: 0, 2: 0})

    def test_what_a_hall_does_not_refuse(self):
        hall = Hall(TORUS)
        hall.weigh(0, 2 * GREAT, 3 * GREAT)
        hall.pour("a", {0: GREAT, 1: GREAT, 2: 0})
        hall.turn(2, "left")
        self.assertTrue(hall.pool("a") == {0: GREAT, 1: GREAT, 2: 2 * GREAT})
        self.assertRaises(TooMany, hall.pool_threads, "a")
        noughts = "0" * 5000
        self.assertEqual(answered(hall, "numbers"), f"0:1{noughts} 1:1{noughts} 2:2{noughts}")
        self.assertEqual(hall.deeds()[1], f"pour a 0:1{noughts} 1:1{noughts} 2:0")

    def test_texts(self):
        noughts = "0" * 5000
        for order in (f"lay a 1{noughts}", f"pour a 1{noughts}:0", f"pour a 0:1{noughts}", f"weigh 1{noughts} 1/1",
                      f"weigh 0 1{noughts}/1", f"weigh 0 1/1{noughts}", f"turn 1{noughts} left",
                      f"cloth 0 1 1{noughts}"):
            self.assertRaises(BadOrder, answered, Hall(TORUS), order)
            self.assertRaises(BadOrder, read, "cloth 0 1 2\nlift a\n" + order)
            self.assertRaises(BadOrder, read, order)

    def test_numbers_that_grow_by_turning(self):
        # Weighing keeps the fractions small, so that a family can be turned as often as one likes.
        hall = Hall(TORUS)
        hall.pour("a", {0: 10 ** 61 - 1, 1: 10 ** 61 - 1, 2: 0})
        while max(hall.pool("a").values()) < 10 ** 4400:
            for seam in (2, 0, 1):
                hall.turn(seam, "left")
                for name in (0, 1, 2):
                    hall.weigh(name, 1, 1)
        told = hall.pool("a")
        text = answered(hall, "pool a")
        numbers = [pair.split(":")[1] for pair in text.split(" ")]
        # Read by parts, for Python does not read so many figures at once either.
        self.assertTrue([by_parts(number) for number in numbers] == [told[0], told[1], told[2]])
        self.assertEqual(written(read(written(hall))), written(hall))


def by_parts(text):
    """The number of so many figures."""
    number = 0
    for k in range(0, len(text), 50):
        number = number * 10 ** len(text[k:k + 50]) + int(text[k:k + 50])
    return number


if __name__ == "__main__":
    unittest.main()
