"""Boards and drawings that several tests ask about, and what each tells in one tuple."""

import itertools
import random

from copperbook.boards import Board
from copperbook.drawings import Drawing


def squares(wide, high):
    return list(itertools.product(range(wide), range(high)))


def all_cells(wide, high, layers):
    return list(itertools.product(range(wide), range(high), range(layers)))


def board_of(size, cells, holes):
    board = Board(*size)
    board.put(list(cells))
    for hole in holes:
        board.drill(*hole)
    return board


def some_board(size, seed, share=0.5):
    """A board with about this share of copper, the same one for the same seed."""
    chance = random.Random(seed)
    cells = [cell for cell in all_cells(*size) if chance.random() < share]
    holes = [square for square in squares(*size[:2]) if chance.random() < 0.3]
    return board_of(size, cells, holes)


def every_board(size):
    """All boards of a small size."""
    cells, places = all_cells(*size), squares(*size[:2])
    for copper in itertools.product([True, False], repeat=len(cells)):
        for holes in itertools.product([True, False], repeat=len(places)):
            yield board_of(size, itertools.compress(cells, copper), itertools.compress(places, holes))


def told(board):
    return (board.wide, board.high, board.layers, board.cells(), board.holes())


def some_drawing(seed, parts=8, nets=24):
    """A drawing with this many parts and at most this many nets, the same one for the same seed."""
    chance = random.Random(seed)
    names = chance.sample(["a", "b", "c2", "d10", "d9", "e", "f0f0f0f0", "zz", "aa", "b1"], parts)
    rows = [(name, chance.choice(["r", "cap"]), chance.randint(1, 8)) for name in names]
    pins = [(name, number) for name, _, many in rows for number in range(many)]
    chance.shuffle(pins)
    many = chance.randint(min(1, len(pins)), min(nets, len(pins)))
    cuts = [0] + sorted(chance.sample(range(1, len(pins)), many - 1)) + [len(pins)] if many else [0]
    titles = chance.sample([f"n{number}" for number in range(40)], many)
    return Drawing(rows, [(title, pins[left:right]) for title, left, right in zip(titles, cuts, cuts[1:])])


def drawn(drawing):
    return (list(drawing.parts), [(name, list(pins)) for name, pins in drawing.nets], drawing.pins(),
            [drawing.net_of(pin) for pin in drawing.pins()])
