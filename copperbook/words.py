"""Texts parted into rows by line ends and into words by single blanks, and numbers as figures."""

FIGURES = "0123456789"
MOST_FIGURES = 40


def is_whole(value):
    """Whether a value is a whole number."""
    # True and False are ints to Python, but no numbers here.
    return isinstance(value, int) and not isinstance(value, bool)


def is_short(number):
    """Whether a whole number has at most MOST_FIGURES figures."""
    # Counting the figures of its text would fail for a very long number.
    return abs(number) < 10 ** 40


def read_number(word):
    """The whole number that a word tells, or None where it tells none."""
    figures = word[1:] if word.startswith("-") else word
    if not 1 <= len(figures) <= MOST_FIGURES:
        return None
    # int would take blanks, a + and an underscore too.
    if not all([sign in FIGURES for sign in figures]):
        return None
    # Each number has one text alone: no 007 and no -0.
    if figures.startswith("0") and word != "0":
        return None
    return int(word)


def read_row(text):
    """A tuple of a text's first word and the list of the numbers behind it, or None for any other text."""
    if not isinstance(text, str):
        return None
    # Parting at each single blank leaves an empty word beside a blank too many, which is no number.
    words = text.split(" ")
    numbers = [read_number(word) for word in words[1:]]
    if None in numbers:
        return None
    return (words[0], numbers)


def read_lines(text):
    """The list of a text's rows, each of which has a line end behind it, or None for any other text."""
    if not isinstance(text, str) or not text.endswith("\n"):
        return None
    return text.split("\n")[:-1]


def tell_row(word, numbers):
    """The text of a word and the numbers behind it."""
    return " ".join([word] + [str(number) for number in numbers])


def tell_lines(rows):
    """The text of rows, each with a line end behind it."""
    return "".join([row + "\n" for row in rows])
