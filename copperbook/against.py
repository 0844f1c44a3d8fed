"""Against: the faults of a board's copper by a drawing, with a cell for each of its pins."""

from copperbook.errors import NoPin
from copperbook.islands import homes


def against(board, drawing, places):
    """The sorted list of all faults of a board, and of the cells of the pins on it, by a drawing."""
    cells = pin_cells(board, drawing, places)
    home = homes(board)
    found = [("bare", pin) for pin in cells if cells[pin] not in home]
    nets = landed_pins(drawing, cells, home)
    for net in nets:
        found.extend(open_faults(net, nets[net]))
        for other in nets:
            if net < other:
                found.extend(short_faults(net, nets[net], other, nets[other]))
    return sorted(found)


def pin_cells(board, drawing, places):
    """A dict from each pin of the drawing, by rising pins, to its cell, refused where one has no cell of the board."""
    if not isinstance(places, dict):
        raise NoPin("places are a dict")
    # By the keys as they stand: asked for a number, a dict would find a truth that equals it too.
    given = {}
    for pin in places:
        if drawing.has_pin(pin):
            given[pin] = places[pin]
    cells = {}
    for pin in drawing.pins():
        if not board.has_cell(given.get(pin)):
            raise NoPin("each pin has a cell of the board")
        cells[pin] = given[pin]
    return cells


def landed_pins(drawing, cells, home):
    """A dict from each net to a dict from each pin of it that is not bare, by rising pins, to its island's home."""
    nets = {}
    for pin in cells:
        if cells[pin] in home:
            pins = nets.setdefault(drawing.net_of(pin), {})
            pins[pin] = home[cells[pin]]
    return nets


def open_faults(net, pins):
    """The list of the pins of a net that are not in the island of its first one."""
    first = min(pins)
    return [("open", net, first, pin) for pin in pins if pins[pin] != pins[first]]


def short_faults(net, pins, other, other_pins):
    """The list of the islands in which pins of both nets lie, by the least pins there."""
    least = least_pins(pins)
    last = least_pins(other_pins)
    return [("short", net, other, least[spot], last[spot]) for spot in least if spot in last]


def least_pins(pins):
    """A dict from each island to the least of the pins there."""
    least = {}
    # The pins rise, so the first one met on an island is its least.
    for pin in pins:
        least.setdefault(pins[pin], pin)
    return least
