"""Boards and drawings that several tests ask about, and what each tells in one tuple."""

import itertools
import random

from copperbook.boards import Board
from copperbook.drawings import Drawing


def squares(wide, high):
    return list(itertools.product(range(wide), range(high)))


def all_cells(wide, high, layers):
    return list(itertools.product(range(wide), range(high), range(layers)))


def board_of(size, cells, holes):
    board = Board(*size)
    board.put(list(cells))
    for hole in holes:
        board.drill(*hole)
    return board


def some_board(size, seed, share=0.5):
    """A board with about this share of copper, the same one for the same seed."""
    chance = random.Random(seed)
    cells = [cell for cell in all_cells(*size) if chance.random() < share]
    holes = [square for square in squares(*size[:2]) if chance.random() < 0.3]
    return board_of(size, cells, holes)


def every_board(size):
    """All boards of a small size."""
    cells, places = all_cells(*size), squares(*size[:2])
    for copper in itertools.product([True, False], repeat=len(cells)):
        for holes in itertools.product([True, False], repeat=len(places)):
            yield board_of(size, itertools.compress(cells, copper), itertools.compress(places, holes))


def told(board):
    return (board.wide, board.high, board.layers, board.cells(), board.holes())


def some_drawing(seed, parts=8, nets=24):
    """A drawing with this many parts and at most this many nets, the same one for the same seed."""
    chance = random.Random(seed)
    names = chance.sample(["a", "b", "c2", "d10", "d9", "e", "f0f0f0f0", "zz", "aa", "b1"], parts)
    rows = [(name, chance.choice(["r", "cap"]), chance.randint(1, 8)) for name in names]
    pins = [(name, number) for name, _, many in rows for number in range(many)]
    chance.shuffle(pins)
    many = chance.randint(min(1, len(pins)), min(nets, len(pins)))
    cuts = [0] + sorted(chance.sample(range(1, len(pins)), many - 1)) + [len(pins)] if many else [0]
    titles = chance.sample([f"n{number}" for number in range(40)], many)
    return Drawing(rows, [(title, pins[left:right]) for title, left, right in zip(titles, cuts, cuts[1:])])


def drawn(drawing):
    return (list(drawing.parts), [(name, list(pins)) for name, pins in drawing.nets], drawing.pins(),
            [drawing.net_of(pin) for pin in drawing.pins()])


def plain_drawing(parts, nets):
    """The drawing of parts (kind, many) and of nets, lists of (part's number, pin)."""
    return Drawing([(f"p{number}", kind, many) for number, (kind, many) in enumerate(parts)],
                   [(f"n{number}", [(f"p{part}", pin) for part, pin in pins]) for number, pins in enumerate(nets)])


def rings(*lengths):
    """The drawing of parts with two pins in rings: the last pin of each in one net with the first one of the next."""
    nets, first = [], 0
    for length in lengths:
        nets += [[(first + at, 1), (first + (at + 1) % length, 0)] for at in range(length)]
        first += length
    return plain_drawing([("k", 2)] * first, nets)


def renamed(drawing, seed):
    """The same drawing with other names, and with its parts, its nets and their pins in another order."""
    chance = random.Random(seed)
    parts, nets = list(drawing.parts), list(drawing.nets)
    chance.shuffle(parts)
    chance.shuffle(nets)
    names = dict(zip([part[0] for part in parts], chance.sample([f"x{number}" for number in range(40)], len(parts))))
    titles = chance.sample([f"y{number}" for number in range(40)], len(nets))
    rows = [(title, chance.sample([(names[name], pin) for name, pin in pins], len(pins)))
            for title, (_, pins) in zip(titles, nets)]
    return Drawing([(names[name], kind, many) for name, kind, many in parts], rows)


def numbers_by_words(size, price, through, starts):
    """The numbers of a wave's cells, by steps tried till none makes one less."""
    prices = {cell: price(cell) for cell in all_cells(*size) if price(cell) is not None}
    numbers = {start: 0 for start in starts if start in prices}
    steps = [(one, other, cost) for one in prices for other in prices
             for cost in [step_price(prices, through, one, other)] if cost is not None]
    changed = True
    while changed:
        changed = False
        for one, other, cost in steps:
            if one in numbers and numbers[one] + cost < numbers.get(other, numbers[one] + cost + 1):
                numbers[other] = numbers[one] + cost
                changed = True
    return numbers


def step_price(prices, through, one, other):
    """The price of a step from an open cell to another one, or None where there is no such step."""
    across, down, layers = [abs(a - b) for a, b in zip(one, other)]
    if layers == 0 and across + down == 1:
        return prices[other]
    if layers > 0 and across + down == 0 and through(one[0], one[1]) is not None:
        return prices[other] + through(one[0], one[1])
    return None
