"""Points 1 and 28 to 30: orders as texts, and a hall written and read."""

import unittest

from tentloops.book import answered, read, written
from tentloops.errors import (
    BadOrder, Locked, NoCounts, NoDeed, NoFraction, NoSeam, NoTent, NoThread, Rim, Taken, TentError, TooGreat, TooMany,
    Uneven, Unknown, Wide,
)
from tentloops.hall import Hall
from oracles import least_by_turns
from model import ModelHall, answers_of, dealt_deed, done_in, small_hall, text_of
from samples import (
    ALL, BALL, CONE, FLAP, HEAP, KITE, MIXED, POUCH, TORUS, band, dealer, many_tents, scattered, wandered,
)

TOP = 10 ** 60
LONG = "1" + "0" * 60
LONGER = "1" + "0" * 61
TORUS_TEXT = "cloth 0 1 2\ncloth 0 1 2"

NO_ORDERS = (
    "", " ", "\n", "x", "done", "Tent", "tent ", " tent", "tent\n", "tent tent", "numbers ", " numbers", "numbers a",
    "back ", " back", "back 1", "Back", "again ", "again again", "deeds", "written", "names", "families", "fractions",
    "cloth 0 1 2", "cloth", "lay", "lay ", "lay a", "lay a ", "lay 0", "lay a 0 4 ", " lay a 0 4", "lay  a 0 4",
    "lay a  0 4", "lay a 0  4", "lay a 0 4\n", "lay a 0\n4", "lay a 0\tb", "lay A 0 4", "lay abcdefghi 0 4",
    "lay a1 0 4",
    "lay a 00 4", "lay a 0 04", "lay a -1 4", "lay a +0 4", "lay a 0,4", "lay a 0 b", "lay a 0.0 4", "lay a 0_0 4",
    "laya 0 4", "Lay a 0 4", "lay a0 4", "lay 0 4 a", "pour", "pour b", "pour b ", "pour b 0", "pour b 0:", "pour b :0",
    "pour b :", "pour b 0:1:2", "pour b 0: 1", "pour b 0 :1", "pour b 0:1  1:1 2:0", "pour b 0:1 1:1 2:0 ",
    "pour b 1:1 0:1 2:0", "pour b 0:1 2:0 1:1", "pour b 0:1 0:1 1:1 2:0", "pour b 0:1 1:1 1:1 2:0",
    "pour b 0:01 1:1 2:0",
    "pour b 00:1 1:1 2:0", "pour b 0:-1 1:1 2:0", "pour b -1:0", "pour B 0:1 1:1 2:0", "pour abcdefghi 0:1 1:1 2:0",
    "pour 0:1 1:1 2:0", "pour b 0:1,1:1", "pour b 0:a", "lift", "lift ", "lift A", "lift a b", "lift a ", "lift  a",
    "lift abcdefghi", "lift 0", "weigh", "weigh 0", "weigh 0 ", "weigh 0 1", "weigh 0 1/", "weigh 0 /1", "weigh 0 /",
    "weigh 0 1/2/3", "weigh 0 1 / 2", "weigh 0 1 2", "weigh 0 01/2", "weigh 0 1/02", "weigh 00 1/2", "weigh 0 -1/2",
    "weigh 0 1/-2", "weigh -1 1/2", "weigh a 1/2", "weigh 0 a/2", "weigh 0 1/2 ", "weigh 0 1/2 3", "weigh  0 1/2",
    "weigh 0  1/2", "weigh 0 1:2", "turn", "turn 0", "turn left", "turn 0 ", "turn 0 up", "turn 0 Left", "turn 0 left ",
    "turn 0  left", "turn  0 left", "turn 0 left right", "turn 00 left", "turn -1 left", "turn a left", "turn left 0",
    "turn 0 left\n", "turn 0 lef", "turn 0 leftright", "thread", "thread ", "thread A", "thread a b", "thread  a",
    "thread a ", "thread 0", "thread abcdefghi", "least", "least ", "least A", "least a a", "least 1", "pool", "pool ",
    "pool A", "pool pool ", "pool a b", "pool 1", "pool abcdefghi", "threads a", "same a a", "worth a", "~", "lay a ~",
)


def is_refused(hall, order):
    """The class with which a hall refuses an order, or None."""
    try:
        answered(hall, order)
    except TentError as error:
        return type(error)
    return None


def is_formless(deed):
    """Whether no text of the right form tells the deed: it has a name or a way of another form, or no places."""
    return deed[-1] in ("up", []) or deed[0] in ("lay", "pour", "lift") and deed[1] in ("", "B")


def order_of(deed):
    """The text of a deed, a fraction as it is handed in."""
    if deed[0] == "weigh":
        return "weigh {} {}/{}".format(*deed[1:])
    return text_of(deed)


class DeedTest(unittest.TestCase):

    def test_each_deed(self):
        hall = Hall(TORUS)
        orders = ["lay a 0 4", "pour b 0:1 1:2 2:3", "weigh 1 4/6", "turn 0 left", "turn 1 right", "lift a"]
        for order in orders:
            self.assertEqual(answered(hall, order), "done")
        other = Hall(TORUS)
        other.lay("a", [0, 4])
        other.pour("b", {0: 1, 1: 2, 2: 3})
        other.weigh(1, 4, 6)
        other.turn(0, "left")
        other.turn(1, "right")
        other.lift("a")
        self.assertEqual(answers_of(hall), answers_of(other))
        # Fractions are told in their lowest terms.
        self.assertEqual(hall.deeds(), orders[:2] + ["weigh 1 2/3"] + orders[3:])

    def test_one_place(self):
        hall = Hall(CONE)
        self.assertEqual(answered(hall, "lay a 0"), "done")
        self.assertEqual(hall.thread("a"), [0])

    def test_one_pair(self):
        # One pair has the form of a deed; a tent has more names, and so the deed refuses it.
        self.assertRaises(NoCounts, answered, Hall(TORUS), "pour a 0:0")

    def test_names_of_one_and_of_eight_letters(self):
        hall = Hall(TORUS)
        for name in ("a", "z", "abcdefgh", "zzzzzzzz"):
            self.assertEqual(answered(hall, f"lay {name} 0 4"), "done")
            self.assertEqual(answered(hall, f"thread {name}"), "0 4")
        for name in ("lay", "pour", "tent", "back", "done"):
            self.assertEqual(answered(hall, f"pour {name} 0:0 1:0 2:0"), "done")
            self.assertEqual(answered(hall, f"pool {name}"), "0:0 1:0 2:0")

    def test_seams_rise_as_numbers(self):
        rows = [(9, 10, 100), (9, 10, 100)]
        self.assertEqual(answered(Hall(rows), "pour a 9:1 10:1 100:2"), "done")
        self.assertRaises(BadOrder, answered, Hall(rows), "pour a 10:1 100:2 9:1")

    def test_back_and_again(self):
        hall = Hall(TORUS)
        orders = ("lay a 0 4", "turn 0 left", "back", "back", "again", "again")
        for order, deeds in zip(orders, (1, 2, 1, 0, 1, 2)):
            self.assertEqual(answered(hall, order), "done")
            self.assertEqual(len(hall.deeds()), deeds)
        self.assertRaises(NoDeed, answered, hall, "again")
        hall.back()
        hall.back()
        self.assertRaises(NoDeed, answered, hall, "back")

    def test_refusals_as_the_halls(self):
        hall = small_hall()
        before = answers_of(hall)
        for order, why in (
            ("lay a 0 4", Taken), ("lay pool 0 4", Taken), ("lay a 0", Taken), ("lay b 0", NoThread),
            ("lay b 6 7", NoThread), ("lay b" + " 0 4" * 201, TooMany), ("pour a 0:1", Taken),
            ("pour b 0:1 1:1", NoCounts),
            ("pour b 0:1 1:1 2:1", Uneven), ("pour b 0:2 1:0 2:0", Wide), ("pour b 0:1 1:1 2:0 3:0", NoCounts),
            ("lift b", Unknown), ("weigh 3 1/1", NoSeam), ("weigh 3 0/0", NoSeam), ("weigh 0 0/1", NoFraction),
            ("weigh 0 1/0", NoFraction), (f"weigh 0 {TOP + 1}/1", TooGreat), ("turn 3 left", NoSeam),
            ("again", NoDeed), ("thread b", Unknown), ("thread pool", Unknown), ("least pool", Unknown),
            ("least b", Unknown), ("pool a", Unknown), ("pool b", Unknown),
        ):
            self.assertIs(is_refused(hall, order), why, order)
            self.assertEqual(answers_of(hall), before)
        hall = Hall(MIXED)
        for order, why in (("turn 1 left", Rim), ("turn 9 right", Locked), ("weigh 1 0/1", Rim), ("lay a 1", NoThread)):
            self.assertIs(is_refused(hall, order), why, order)

    def test_turning_refuses(self):
        hall = Hall(TORUS)
        answered(hall, "lay a" + " 1 5" * 101)
        self.assertRaises(TooMany, answered, hall, "turn 0 left")
        hall = Hall(MIXED)
        answered(hall, f"weigh 6 1/{TOP}")
        self.assertRaises(TooGreat, answered, hall, "turn 6 left")


class BadOrderTest(unittest.TestCase):

    def test_no_orders(self):
        hall = small_hall()
        before = answers_of(hall)
        for order in NO_ORDERS:
            self.assertIs(is_refused(hall, order), BadOrder, repr(order))
        self.assertEqual(answers_of(hall), before)

    def test_they_forget_nothing_that_was_taken_back(self):
        hall = small_hall()
        before = answers_of(hall)
        hall.back()
        for order in NO_ORDERS:
            self.assertIs(is_refused(hall, order), BadOrder)
        hall.again()
        self.assertEqual(answers_of(hall), before)

    def test_bad_order_goes_ahead_of_what_a_deed_refuses(self):
        hall = small_hall()
        for order in ("lay a 0 04", "lay a", "pour a 1:1 0:1", "lift B", "weigh 77 0/00", "turn 77 up", "thread B",
                      "lay a 0 " + LONGER):
            self.assertIs(is_refused(hall, order), BadOrder, order)

    def test_blanks_between_all_words(self):
        for order in ("lay x 0 4", "pour b 0:1 1:1 2:0", "lift a", "weigh 0 1/2", "turn 0 left", "thread a", "least a",
                      "pool pool", "tent", "numbers", "back"):
            words = order.split(" ")
            wrong = [f" {order}", f"{order} ", f"{order}\n", f"\n{order}"]
            for k in range(1, len(words)):
                ahead, behind = " ".join(words[:k]), " ".join(words[k:])
                wrong += [f"{ahead}  {behind}", f"{ahead}{behind}", f"{ahead}\n{behind}"]
            self.assertIsNone(is_refused(small_hall(), order))
            for text in wrong:
                self.assertIs(is_refused(small_hall(), text), BadOrder, repr(text))


class SixtyOneFiguresTest(unittest.TestCase):

    def test_sixty_one_figures(self):
        self.assertEqual((len(LONG), len(LONGER)), (61, 62))
        nines = "9" * 61
        for number in (LONG, nines):
            for order, why in (
                (f"lay a {number}", NoThread), (f"lay a 0 {number}", NoThread), (f"lay a {number} 4", NoThread),
                (f"pour b {number}:0", NoCounts), (f"pour b 0:0 1:0 2:0 {number}:0", NoCounts),
                (f"pour b 0:{number} 1:0 2:0", (Uneven, Wide)), (f"weigh {number} 1/1", NoSeam),
                (f"turn {number} left", NoSeam), (f"turn {number} right", NoSeam),
            ):
                got = is_refused(Hall(TORUS), order)
                self.assertTrue(got is why or isinstance(why, tuple) and got in why, (order, got))
        hall = Hall(TORUS)
        answered(hall, f"pour b 0:{nines} 1:{nines} 2:2")
        self.assertEqual(hall.pool("b"), {0: 10 ** 61 - 1, 1: 10 ** 61 - 1, 2: 2})
        self.assertEqual(answered(hall, "pool b"), f"0:{nines} 1:{nines} 2:2")
        answered(hall, f"weigh 0 {LONG}/1")
        answered(hall, f"weigh 1 1/{LONG}")
        answered(hall, f"weigh 2 {nines}/{nines}")
        self.assertEqual(hall.fractions(), {0: (TOP, 1), 1: (1, TOP), 2: (1, 1)})
        self.assertRaises(TooGreat, answered, hall, f"weigh 2 {nines}/1")
        self.assertEqual(hall.deeds()[1:], [f"weigh 0 {LONG}/1", f"weigh 1 1/{LONG}", "weigh 2 1/1"])

    def test_sixty_two_figures(self):
        for number in (LONGER, "9" * 62, "1" * 5000, "0" * 61, "0" * 62):
            for order in (
                f"lay a {number}", f"lay a 0 {number}", f"lay a {number} 4", f"pour b {number}:0",
                f"pour b 0:0 1:0 {number}:0", f"pour b 0:{number} 1:0 2:0", f"pour b 0:{number} 1:{number} 2:0",
                f"pour b 0:0 1:0 2:{number}", f"weigh {number} 1/1", f"weigh 0 {number}/1", f"weigh 0 1/{number}",
                f"weigh 0 {number}/{number}", f"turn {number} left", f"turn {number} right",
            ):
                self.assertIs(is_refused(Hall(TORUS), order), BadOrder)

    def test_cloth_rows(self):
        for k in range(3):
            for number, why in ((LONG, NoTent), ("9" * 61, NoTent), ("10000", NoTent), (LONGER, BadOrder),
                                ("1" * 5000, BadOrder), ("0" * 61, BadOrder)):
                words = ["cloth", "1", "2", "3"]
                words[k + 1] = number
                self.assertRaises(why, read, " ".join(words))
                self.assertRaises(why, read, TORUS_TEXT + "\n" + " ".join(words))


class QuestionTest(unittest.TestCase):

    def test_tent(self):
        hall = Hall(TORUS)
        self.assertEqual(answered(hall, "tent"), TORUS_TEXT)
        hall.turn(0, "left")
        self.assertEqual(answered(hall, "tent"), "cloth 0 2 1\ncloth 0 2 1")
        self.assertEqual(answered(Hall(CONE), "tent"), "cloth 5 5 7")
        self.assertEqual(answered(Hall([(0, 9999, 1000)]), "tent"), "cloth 0 9999 1000")

    def test_numbers(self):
        self.assertEqual(answered(Hall(TORUS), "numbers"), "0:0 1:0 2:0")
        self.assertEqual(answered(small_hall(), "numbers"), "0:2 1:3 2:3")
        # Rising as numbers, rims too.
        hall = Hall([(100, 9, 11), (100, 9, 20)])
        self.assertEqual(answered(hall, "numbers"), "9:0 11:0 20:0 100:0")

    def test_thread_and_least(self):
        hall = Hall(TORUS)
        hall.lay("a", [3, 1])
        self.assertEqual(answered(hall, "thread a"), "3 1")
        self.assertEqual(answered(hall, "least a"), "0 4")
        hall.turn(0, "left")
        self.assertEqual(answered(hall, "thread a"), " ".join(str(place) for place in hall.thread("a")))
        wanted = least_by_turns(hall.tent_rows(), hall.thread("a"))
        self.assertEqual(answered(hall, "least a"), " ".join(str(place) for place in wanted))

    def test_least_against_all_turns(self):
        for number, rows in enumerate(many_tents()):
            for word in wandered(rows, number, 40)[:2]:
                hall = Hall(rows)
                hall.lay("a", word)
                wanted = " ".join(str(place) for place in least_by_turns(rows, word))
                self.assertEqual(answered(hall, "least a"), wanted)

    def test_pool(self):
        hall = small_hall()
        self.assertEqual(answered(hall, "pool pool"), "0:1 1:2 2:3")
        hall.turn(0, "left")
        self.assertEqual(answered(hall, "pool pool"), "0:5 1:2 2:3")

    def test_questions_change_nothing(self):
        hall = small_hall()
        hall.turn(0, "left")
        wanted = answers_of(hall)
        hall.back()
        before = answers_of(hall)
        for order in ("tent", "numbers", "thread a", "least a", "pool pool"):
            answered(hall, order)
        self.assertEqual(answers_of(hall), before)
        hall.again()
        self.assertEqual(answers_of(hall), wanted)

    def test_great_numbers_are_written_out(self):
        # Python itself does not write out a number of more than 4,300 figures.
        great = 10 ** 5000
        hall = Hall(TORUS)
        hall.pour("a", {0: great, 1: great, 2: 0})
        self.assertEqual(answered(hall, "pool a"), "0:1{0} 1:1{0} 2:0".format("0" * 5000))
        hall.pour("b", {0: 7, 1: 7, 2: 0})
        self.assertEqual(answered(hall, "numbers"), "0:1{0}7 1:1{0}7 2:0".format("0" * 4999))
        self.assertEqual(written(hall).split("\n")[2], "pour a 0:1{0} 1:1{0} 2:0".format("0" * 5000))

    def test_numbers_around_sixty_figures(self):
        for number in (10 ** 59, 10 ** 60 - 1, 10 ** 60, 10 ** 60 + 1, 10 ** 61 - 1, 123456789 * 10 ** 50 + 7,
                       10 ** 120, 10 ** 120 - 1, 10 ** 180 + 10 ** 60 + 1):
            hall = Hall(TORUS)
            hall.pour("a", {0: number, 1: number, 2: 0})
            self.assertEqual(answered(hall, "pool a"), f"0:{number} 1:{number} 2:0")


class WrittenTest(unittest.TestCase):

    def test_a_new_hall(self):
        self.assertEqual(written(Hall(TORUS)), TORUS_TEXT)
        self.assertEqual(written(Hall(CONE)), "cloth 5 5 7")

    def test_by_hand(self):
        hall = small_hall()
        hall.turn(0, "left")
        hall.lift("a")
        deeds = "lay a 0 4\npour pool 0:1 1:2 2:3\nweigh 1 2/3\nturn 0 left\nlift a"
        # The tent is the one with which the hall began.
        self.assertEqual(written(hall), TORUS_TEXT + "\n" + deeds)
        # Of the deeds only those that stand.
        hall.back()
        hall.back()
        self.assertEqual(written(hall), TORUS_TEXT + "\nlay a 0 4\npour pool 0:1 1:2 2:3\nweigh 1 2/3")

    def test_writing_changes_nothing(self):
        hall = small_hall()
        hall.back()
        before = answers_of(hall)
        written(hall)
        self.assertEqual(answers_of(hall), before)
        hall.again()


class ReadTest(unittest.TestCase):

    def test_one_cloth_row_alone(self):
        hall = read("cloth 5 5 7")
        self.assertIs(type(hall), Hall)
        self.assertEqual((hall.first_rows(), hall.tent_rows(), hall.deeds()), (CONE, CONE, []))

    def test_by_hand(self):
        hall = read(TORUS_TEXT + "\nlay a 0 4\nweigh 0 4/6\nturn 0 left")
        self.assertEqual(hall.deeds(), ["lay a 0 4", "weigh 0 2/3", "turn 0 left"])
        self.assertEqual((hall.first_rows(), hall.thread("a")), (TORUS, [2, 3]))
        hall.back()
        self.assertEqual((hall.tent_rows(), hall.thread("a")), (TORUS, [0, 4]))

    def test_nothing_is_taken_back(self):
        hall = small_hall()
        hall.back()
        other = read(written(hall))
        self.assertRaises(NoDeed, other.again)
        self.assertEqual(len(other.deeds()), 2)

    def test_forty_cloths(self):
        for rows in (band(40), scattered(60, 40)):
            text = "\n".join("cloth {} {} {}".format(*row) for row in rows)
            self.assertEqual(read(text).first_rows(), rows)
            self.assertEqual(written(read(text)), text)

    def test_bad_orders(self):
        for text in (
            "", " ", "\n", "cloth", "cloth ", "cloth 0 1", "cloth 0 1 2 3", "cloth 0 1 2 ", " cloth 0 1 2",
            "cloth  0 1 2", "cloth 0  1 2", "cloth 0 1  2", "cloth 0 12", "cloth0 1 2", "Cloth 0 1 2", "cloth a 1 2",
            "cloth 0 1 02", "cloth 0 1 -2", "cloth 0,1,2", "cloth 0 1 2\n", "\ncloth 0 1 2", "cloth 0 1 2\n\n",
            "cloth 0 1 2\n\ncloth 3 4 5", "cloth 0 1 2\n\nlift a", "lay a 0 4", "lay a 0 4\ncloth 0 1 2",
            "weigh 0 1/1\ncloth 0 1 2", "tent", "back", "cloth 0 1 2\ncloth", "cloth 0 1 2\ncloth ",
            "cloth 0 1 2\ncloth 3 4", "cloth 0 1 2\nx",
        ):
            self.assertRaises(BadOrder, read, text)

    def test_cloth_rows_behind_deeds(self):
        for text in ("\nweigh 0 1/1\ncloth 3 4 5", "\nlay a 0 4\ncloth 3 4 5\nlift a", "\nlay a 0 4\ncloth 3 4"):
            self.assertRaises(BadOrder, read, TORUS_TEXT + text)

    def test_rows_that_are_no_deeds(self):
        for row in NO_ORDERS + ("tent", "numbers", "back", "again", "thread a", "least a", "pool pool"):
            if row != "cloth 0 1 2":
                self.assertRaises(BadOrder, read, f"{TORUS_TEXT}\nlay a 0 4\npour pool 0:1 1:1 2:0\n{row}")
                self.assertRaises(BadOrder, read, f"{TORUS_TEXT}\nlay a 0 4\n{row}\nlift a")

    def test_a_line_feed_at_the_end(self):
        for text in (TORUS_TEXT, TORUS_TEXT + "\nlay a 0 4", TORUS_TEXT + "\nturn 0 left"):
            read(text)
            self.assertRaises(BadOrder, read, text + "\n")

    def test_no_tent(self):
        for text in ("cloth 0 0 0", "cloth 0 1 10000", "cloth 0 1 2\ncloth 0 0 3"):
            self.assertRaises(NoTent, read, text)
            # Ahead of what a deed refuses.
            self.assertRaises(NoTent, read, text + "\nlift a")
            self.assertRaises(NoTent, read, text + "\nlay a 77")

    def test_bad_order_goes_ahead_of_all(self):
        for text in ("cloth 0 0 0", "cloth 0 1 10000", TORUS_TEXT):
            for deeds in ("\nlift a\nx", "\nlay a 77\n", "\nturn 77 left\nturn 77 up", "\nlay a 0 4\nlay a 0 4\nback"):
                self.assertRaises(BadOrder, read, text + deeds)
        self.assertRaises(BadOrder, read, "cloth 0 0 0\ncloth 1 1")

    def test_what_a_deed_refuses(self):
        for deeds, why in (
            ("lay a 0", NoThread), ("lay a 0 4\nlay a 0 4", Taken), ("lay a 0 4\npour a 0:1", Taken),
            ("lay a" + " 0 4" * 201, TooMany), ("pour a 0:1", NoCounts), ("pour a 0:1 1:1 2:1", Uneven),
            ("pour a 0:2 1:0 2:0", Wide), ("lift a", Unknown), ("weigh 9 1/1", NoSeam), ("weigh 0 0/1", NoFraction),
            (f"weigh 0 {TOP + 1}/1", TooGreat), ("turn 9 left", NoSeam), ("lay a 0 4\nlift a\nlift a", Unknown),
            ("lay a" + " 1 5" * 101 + "\nturn 0 left", TooMany),
        ):
            self.assertRaises(why, read, f"{TORUS_TEXT}\n{deeds}")
        self.assertRaises(Rim, read, "cloth 5 5 7\nweigh 7 1/1")
        self.assertRaises(Rim, read, "cloth 5 5 7\nturn 7 left")
        self.assertRaises(Locked, read, "cloth 5 5 7\nturn 5 left")

    def test_the_earlier_deed_refuses_first(self):
        self.assertRaises(Unknown, read, TORUS_TEXT + "\nlift a\nlay a 0\nturn 9 left")
        self.assertRaises(NoSeam, read, TORUS_TEXT + "\nlay a 0 4\nturn 9 left\nlift b")


class RoundTripTest(unittest.TestCase):

    def test_a_hall_written_and_read_tells_the_same(self):
        many = 0
        for number, rows in enumerate([TORUS, BALL, MIXED, POUCH, HEAP, CONE, KITE, FLAP, scattered(5, 4), band(7)]):
            deal, hall, model = dealer(number + 7), Hall(rows), ModelHall(rows)
            for step in range(30):
                deed = dealt_deed(deal, model)
                if model.refusal(deed) is None:
                    done_in(hall, deed)
                if step % 5 == 4:
                    other = read(written(hall))
                    self.assertEqual(answers_of(other), answers_of(hall))
                    self.assertEqual(written(other), written(hall))
                    for order in ["tent", "numbers"] + [f"least {name}" for name in hall.names()]:
                        self.assertEqual(answered(other, order), answered(hall, order))
                    many = max(many, len(hall.deeds()))
        self.assertGreater(many, 8)

    def test_each_deed_by_its_text(self):
        for number, rows in enumerate([TORUS, BALL, MIXED, POUCH, HEAP]):
            deal, hall, model = dealer(number + 70), Hall(rows), ModelHall(rows)
            for step in range(30):
                deed = dealt_deed(deal, model)
                order = order_of(deed)
                why = BadOrder if is_formless(deed) else model.refusal(deed)
                self.assertIs(is_refused(hall, order), why, order)
                self.assertEqual(answers_of(hall), model.answers())

    def test_a_read_hall_goes_on_by_itself(self):
        hall = small_hall()
        other = read(written(hall))
        wanted = answers_of(hall)
        other.turn(0, "left")
        other.lift("a")
        self.assertEqual(answers_of(hall), wanted)
        for step in range(5):
            other.back()
        self.assertEqual(answers_of(other), answers_of(Hall(TORUS)))

    def test_all_tents(self):
        for rows in ALL + many_tents():
            self.assertEqual(written(read(written(Hall(rows)))), written(Hall(rows)))
            self.assertEqual(read(written(Hall(rows))).first_rows(), rows)

    def test_the_greatest_of_all(self):
        hall = Hall(TORUS)
        hall.pour("abcdefgh", {0: 10 ** 61 - 1, 1: 10 ** 61 - 1, 2: 10 ** 61 - 2})
        hall.weigh(0, TOP, TOP - 1)
        hall.lay("a", [0, 4] * 200)
        other = read(written(hall))
        self.assertEqual(answers_of(other), answers_of(hall))
        self.assertEqual(written(other), written(hall))


if __name__ == "__main__":
    unittest.main()
