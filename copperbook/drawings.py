"""Drawings: parts with pins, and the nets that join them."""

from copperbook.errors import NoDrawing, NoPin
from copperbook.words import FIGURES, is_whole

LETTERS = "abcdefghijklmnopqrstuvwxyz"
MOST_SIGNS = 8
MOST_PARTS = 8
MOST_PINS = 8
MOST_NETS = 24


class Drawing:
    """Parts (name, kind, many) and nets (name, pins), each pin (part's name, number) in just one net."""

    def __init__(self, parts, nets):
        need_rows(parts, MOST_PARTS, need_part)
        need_rows(nets, MOST_NETS, need_net)
        self.parts = list(parts)
        self.nets = [(net[0], list(net[1])) for net in nets]
        # The lists can be changed by whoever is told them; what the drawing is then stays by these dicts.
        self.kinds = part_kinds(parts)
        self.joins = joined_pins(parts, nets)

    def pins(self):
        """The sorted list of all pins."""
        return sorted(self.joins)

    def net_of(self, pin):
        """The name of the net with this pin."""
        if not self.has_pin(pin):
            raise NoPin("the drawing has no such pin")
        return self.joins[pin]

    def has_pin(self, pin):
        """Whether the drawing has a pin."""
        # A truth would be found among the keys as the number that it equals, so the pin is looked at first.
        return is_pin(pin) and pin in self.joins

    def net_pins(self):
        """A dict from each net's name, as the nets stand, to the sorted list of its pins."""
        # The dict of joins goes net by net, and no net is without a pin, so each name comes up in its turn.
        nets = {}
        for pin in self.joins:
            nets[self.joins[pin]] = []
        for pin in self.pins():
            nets[self.joins[pin]].append(pin)
        return nets


def part_kinds(parts):
    """A dict from each part's name, as the parts stand, to its kind and how many pins it has."""
    kinds = {}
    for name, kind, many in parts:
        kinds[name] = (kind, many)
    return kinds


def joined_pins(parts, nets):
    """A dict from each pin of the parts to its net's name, refused where not each is in just one net, once."""
    joins = {}
    for name, pins in nets:
        for pin in pins:
            if pin in joins:
                raise NoDrawing("a pin is in one net, once")
            joins[pin] = name
    if sorted(joins) != sorted(part_pins(parts)):
        raise NoDrawing("the pins of the nets are those of the parts")
    return joins


def part_pins(parts):
    """The list of the pins of all parts."""
    pins = []
    for name, kind, many in parts:
        pins.extend([(name, number) for number in range(many)])
    return pins


def need_rows(rows, most, need_row):
    """Refuses what is no list of at most so many, with a row that need_row refuses, or with one name twice."""
    if not isinstance(rows, list) or len(rows) > most:
        raise NoDrawing(f"a list of at most {most} is asked for")
    for row in rows:
        need_row(row)
    names = [row[0] for row in rows]
    if len(set(names)) != len(names):
        raise NoDrawing("the names of parts, and those of nets, are unlike")


def need_part(part):
    """Refuses what is no tuple (name, kind, many)."""
    if not isinstance(part, tuple) or len(part) != 3:
        raise NoDrawing("a part is a tuple of a name, a kind and how many pins it has")
    if not is_name(part[0]) or not is_name(part[1]):
        raise NoDrawing(f"names and kinds are 1 to {MOST_SIGNS} small letters and figures, a letter first")
    if not is_whole(part[2]) or not 1 <= part[2] <= MOST_PINS:
        raise NoDrawing(f"a part has 1 to {MOST_PINS} pins")


def need_net(net):
    """Refuses what is no tuple (name, pins)."""
    if not isinstance(net, tuple) or len(net) != 2:
        raise NoDrawing("a net is a tuple of a name and its pins")
    if not is_name(net[0]):
        raise NoDrawing(f"names are 1 to {MOST_SIGNS} small letters and figures, a letter first")
    if not isinstance(net[1], list) or not net[1]:
        raise NoDrawing("a net has a list of one pin or more")
    if not all([is_pin(pin) for pin in net[1]]):
        raise NoDrawing("a pin is a tuple of a part's name and a number")


def is_pin(value):
    """Whether a value is a tuple of a text and a whole number."""
    return isinstance(value, tuple) and len(value) == 2 and isinstance(value[0], str) and is_whole(value[1])


def is_name(value):
    """Whether a value is a text of some small letters and figures, a letter first."""
    if not isinstance(value, str) or not 1 <= len(value) <= MOST_SIGNS:
        return False
    return value[0] in LETTERS and all([sign in LETTERS + FIGURES for sign in value])
