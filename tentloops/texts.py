"""The forms of names and numbers in texts, and how numbers are written there."""

SMALL_LETTERS = "abcdefghijklmnopqrstuvwxyz"
FIGURES = "0123456789"
LONGEST_NAME = 8
MOST_FIGURES = 61
WRITTEN_AT_ONCE = 60
PART = 10 ** 60


def made_of(text, signs):
    """Whether the text has no other signs than these."""
    return all([sign in signs for sign in text])


def is_name(text):
    """Whether the text has the form of a name."""
    return 1 <= len(text) <= LONGEST_NAME and made_of(text, SMALL_LETTERS)


def is_number(text):
    """Whether the text has the form of a number."""
    if not 1 <= len(text) <= MOST_FIGURES or not made_of(text, FIGURES):
        return False
    return text == "0" or not text.startswith("0")


def figures(number):
    """The number from 0 on written out, part by part: Python refuses to write very great ones at once."""
    parts = []
    while number >= PART:
        parts.append(str(number % PART).zfill(WRITTEN_AT_ONCE))
        number //= PART
    parts.append(str(number))
    return "".join(reversed(parts))


def row_text(words):
    """Texts and numbers with one blank between."""
    return " ".join([word if isinstance(word, str) else figures(word) for word in words])


def counts_text(counts):
    """Numbers of a tent by rising seams."""
    return " ".join([f"{seam}:{figures(counts[seam])}" for seam in sorted(counts)])
