"""Rules for the copper of a board, and their text."""

from copperbook.errors import NoRules
from copperbook.words import is_short, is_whole, read_lines, read_row, tell_lines, tell_row

MOST_GAP = 2
MOST_WIDTH = 3
MOST_RIM = 1
MOST_KEEPS = 12


class Rules:
    """How far islands are apart, how wide copper is, how far it goes round holes, and where there is none."""

    def __init__(self, gap, width, rim, keeps):
        need_between(gap, 0, MOST_GAP)
        need_between(width, 1, MOST_WIDTH)
        need_between(rim, 0, MOST_RIM)
        need_keeps(keeps)
        self.gap = gap
        self.width = width
        self.rim = rim
        self.keeps = list(keeps)
        # The list can be changed by whoever is told it; what the rules ask for then stays by this tuple.
        self.kept = tuple(keeps)

    def told(self):
        """The text of the rules."""
        rows = [tell_row("gap", [self.gap]), tell_row("width", [self.width]), tell_row("rim", [self.rim])]
        rows.extend([tell_row("keep", keep) for keep in self.kept])
        return tell_lines(rows)


def need_between(number, least, most):
    """Refuses what is no whole number from the least to the most."""
    if not is_whole(number) or not least <= number <= most:
        raise NoRules(f"a number from {least} to {most} is asked for")


def need_keeps(keeps):
    """Refuses what is no list of keeps, or one of too many."""
    if not isinstance(keeps, list) or len(keeps) > MOST_KEEPS:
        raise NoRules(f"keeps are a list of at most {MOST_KEEPS}")
    for keep in keeps:
        need_keep(keep)


def need_keep(keep):
    """Refuses what is no tuple (x, y, wide, high, z)."""
    if not isinstance(keep, tuple) or len(keep) != 5:
        raise NoRules("a keep is a tuple of five numbers")
    for number in keep:
        if not is_whole(number) or number < 0 or not is_short(number):
            raise NoRules("a keep's numbers are from 0 on, of at most 40 figures")
    if keep[2] < 1 or keep[3] < 1:
        raise NoRules("a keep is at least 1 wide and high")


def read_rules(text):
    """The rules that a text tells."""
    rows = read_lines(text)
    if rows is None or len(rows) < 3:
        raise NoRules("rules are a text of rows gap, width, rim, each with a line end behind it")
    gap = read_numbers(rows[0], "gap", 1)
    width = read_numbers(rows[1], "width", 1)
    rim = read_numbers(rows[2], "rim", 1)
    keeps = [tuple(read_numbers(row, "keep", 5)) for row in rows[3:]]
    return Rules(gap[0], width[0], rim[0], keeps)


def read_numbers(text, word, many):
    """The list of the numbers of a row that begins with this word and has so many of them."""
    row = read_row(text)
    if row is None or row[0] != word or len(row[1]) != many:
        raise NoRules(f"a row of the word {word} and {many} numbers is asked for")
    return row[1]
