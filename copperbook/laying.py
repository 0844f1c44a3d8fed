"""Laying: ways of copper, and holes, that join the pins of each net."""

from copperbook.against import against, pin_cells
from copperbook.breaks import around, is_kept
from copperbook.errors import NoDrawing, NoLay, NoRules
from copperbook.islands import homes, neighbours
from copperbook.shapes import Block
from copperbook.waves import wave

CELL_PRICE = 1
HOLE_PRICE = 1
NEW_HOLE_PRICE = 3


def lay_all(board, rules, drawing, places, order=None):
    """A new board with all nets laid one behind the other, and their ways, or the first net that is shut."""
    nets = drawing.net_pins()
    names = list(nets) if order is None else order
    need_order(names, nets)
    need_plain(rules)
    cells = pin_cells(board, drawing, places)
    need_clean(against(board, drawing, places))
    laid = board.copy()
    ways = []
    for name in names:
        shut = lay_net(laid, rules, name, [cells[pin] for pin in nets[name]], ways)
        if shut is not None:
            return ("shut", name, ways, shut)
    return ("laid", laid, ways)


def need_order(names, nets):
    """Refuses what is no list of the names of all nets, each once."""
    if not isinstance(names, list) or not all([isinstance(name, str) for name in names]):
        raise NoDrawing("an order is a list of the names of nets")
    if sorted(names) != sorted(nets):
        raise NoDrawing("an order has the names of all nets, each once")


def need_plain(rules):
    """Refuses rules by which nets can't be laid."""
    if rules.width != 1 or rules.rim != 0:
        raise NoRules("nets are laid by rules with a width of 1 and a rim of 0")


def need_clean(faults):
    """Refuses a board with other faults than pins of one net on two islands."""
    for fault in faults:
        if fault[0] != "open":
            raise NoLay("nets are laid where all pins lie on copper, and no two nets' on one island")


def lay_net(board, rules, name, spots, ways):
    """Lays a net with pins at these spots, the least pin's first, and tells the numbers of a shut wave, or None."""
    # Its ways are added to those of the nets ahead, as they are told of a shut net too.
    home = homes(board)
    while any([home[spot] != home[spots[0]] for spot in spots]):
        told = net_wave(board, rules, home, spots)
        if told[0] == "shut":
            return told[1]
        lay_way(board, told[1])
        ways.append((name, told[1]))
        home = homes(board)
    return None


def net_wave(board, rules, home, spots):
    """The wave from the island of a net's first spot to its other islands."""
    lands = [home[spot] for spot in spots]
    own = [cell for cell in home if home[cell] in lands]
    foreign = {}
    for cell in home:
        if home[cell] not in lands:
            foreign[cell] = True
    starts = [cell for cell in own if home[cell] == lands[0]]
    goals = [cell for cell in own if home[cell] != lands[0]]
    prices = cell_prices(board, rules, own, foreign)
    price = lambda cell: prices.get(cell)
    through = lambda x, y: hole_price(board, foreign, x, y)
    return wave((board.wide, board.high, board.layers), price, through, starts, goals)


def cell_prices(board, rules, own, foreign):
    """A dict from each open cell to its price."""
    prices = {}
    for cell in own:
        prices[cell] = CELL_PRICE
    for x, y in Block(0, 0, board.wide, board.high).cells():
        for z in range(board.layers):
            if can_be_laid(board, rules, foreign, (x, y, z)):
                prices[(x, y, z)] = CELL_PRICE
    return prices


def can_be_laid(board, rules, foreign, cell):
    """Whether a cell can become copper: none yet, in no keep, and neither near to foreign copper nor joined to it."""
    if cell in board.copper or is_kept(cell, rules.kept):
        return False
    return not any([spot in foreign for spot in around(cell, rules.gap) + neighbours(board, cell)])


def hole_price(board, foreign, x, y):
    """For how much a way changes the layer at a square, or None where it can't."""
    if board.has_hole(x, y):
        return HOLE_PRICE
    if any([(x, y, z) in foreign for z in range(board.layers)]):
        return None
    return NEW_HOLE_PRICE


def lay_way(board, cells):
    """Makes copper of a way's cells, and a hole where it changes the layer."""
    board.put(cells)
    for one, other in zip(cells, cells[1:]):
        if one[2] != other[2]:
            board.drill(one[0], one[1])
