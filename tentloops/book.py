"""Orders to a hall as texts, and a hall written and read."""

from tentloops.errors import BadOrder
from tentloops.hall import Hall
from tentloops.tents import Tent
from tentloops.texts import counts_text, is_name, is_number, row_text
from tentloops.words import least

WAYS = ("left", "right")
ASKED_BY_NAME = ("thread", "least", "pool")


def look_form(right):
    """Refuse a text that has not the form of an order."""
    if not right:
        raise BadOrder("the text is no order")


def name_in(word):
    """The name that a word of a text is."""
    look_form(is_name(word))
    return word


def number_in(word):
    """The number that a word of a text is."""
    look_form(is_number(word))
    return int(word)


def two_numbers_in(word, sign):
    """The two numbers of a word with a sign between them."""
    parts = word.split(sign)
    look_form(len(parts) == 2)
    return (number_in(parts[0]), number_in(parts[1]))


def counts_in(words):
    """The numbers that words `SEAM:NUMBER` tell."""
    pairs = [two_numbers_in(word, ":") for word in words]
    seams = [seam for seam, number in pairs]
    look_form(seams == sorted(set(seams)))
    return dict(pairs)


def lay_in(words):
    """The name and the places behind `lay`."""
    look_form(len(words) >= 2)
    return (name_in(words[0]), [number_in(word) for word in words[1:]])


def pour_in(words):
    """The name and the numbers behind `pour`."""
    look_form(len(words) >= 2)
    return (name_in(words[0]), counts_in(words[1:]))


def lift_in(words):
    """The name behind `lift`."""
    look_form(len(words) == 1)
    return (name_in(words[0]),)


def weigh_in(words):
    """The seam and the two parts behind `weigh`."""
    look_form(len(words) == 2)
    top, bottom = two_numbers_in(words[1], "/")
    return (number_in(words[0]), top, bottom)


def turn_in(words):
    """The seam and the way behind `turn`."""
    look_form(len(words) == 2 and words[1] in WAYS)
    return (number_in(words[0]), words[1])


READERS = {"lay": lay_in, "pour": pour_in, "lift": lift_in, "weigh": weigh_in, "turn": turn_in}


def deed_in(text):
    """What deed the text tells: its first word, and what the hall is handed for it."""
    words = text.split(" ")
    look_form(words[0] in READERS)
    reader = READERS[words[0]]
    return (words[0], reader(words[1:]))


def do_deed(hall, deed):
    """Do in the hall what deed_in has told."""
    verb, parts = deed
    if verb == "lay":
        hall.lay(parts[0], parts[1])
    elif verb == "pour":
        hall.pour(parts[0], parts[1])
    elif verb == "lift":
        hall.lift(parts[0])
    elif verb == "weigh":
        hall.weigh(parts[0], parts[1], parts[2])
    else:
        hall.turn(parts[0], parts[1])


def rows_text(rows):
    """The cloths of a tent, one each row."""
    return "\n".join([row_text(["cloth"] + list(row)) for row in rows])


def told_of(hall, word, name):
    """The answer to a question for a thread or a family."""
    if word == "pool":
        return counts_text(hall.pool(name))
    if word == "thread":
        return row_text(hall.thread(name))
    return row_text(least(Tent(hall.tent_rows()), hall.thread(name)))


def answered(hall, order):
    """The hall's answer to an order."""
    words = order.split(" ")
    if order == "tent":
        return rows_text(hall.tent_rows())
    if order == "numbers":
        return counts_text(hall.numbers())
    if len(words) == 2 and words[0] in ASKED_BY_NAME:
        return told_of(hall, words[0], name_in(words[1]))
    if order == "back":
        hall.back()
    elif order == "again":
        hall.again()
    else:
        do_deed(hall, deed_in(order))
    return "done"


def written(hall):
    """The hall as a text that `read` reads."""
    return "\n".join([rows_text(hall.first_rows())] + hall.deeds())


def cloth_in(row):
    """The cloth that a row of a text tells."""
    words = row.split(" ")
    look_form(len(words) == 4)
    return (number_in(words[1]), number_in(words[2]), number_in(words[3]))


def cloth_rows_ahead(rows):
    """How many rows, from the first on, are meant to be cloths."""
    many = 0
    while many < len(rows) and rows[many].startswith("cloth "):
        many += 1
    return many


def read(text):
    """A hall that has done what the text tells."""
    rows = text.split("\n")
    many = cloth_rows_ahead(rows)
    look_form(many > 0)
    # All rows are looked at ahead of all else: a later row's form is refused ahead of an earlier one's deed.
    cloths = [cloth_in(row) for row in rows[:many]]
    deeds = [deed_in(row) for row in rows[many:]]
    hall = Hall(cloths)
    for deed in deeds:
        do_deed(hall, deed)
    return hall
