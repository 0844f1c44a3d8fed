"""Boards that several tests ask about, and what a board tells in one tuple."""

import itertools
import random

from copperbook.boards import Board


def squares(wide, high):
    return list(itertools.product(range(wide), range(high)))


def all_cells(wide, high, layers):
    return list(itertools.product(range(wide), range(high), range(layers)))


def board_of(size, cells, holes):
    board = Board(*size)
    board.put(list(cells))
    for hole in holes:
        board.drill(*hole)
    return board


def some_board(size, seed, share=0.5):
    """A board with about this share of copper, the same one for the same seed."""
    chance = random.Random(seed)
    cells = [cell for cell in all_cells(*size) if chance.random() < share]
    holes = [square for square in squares(*size[:2]) if chance.random() < 0.3]
    return board_of(size, cells, holes)


def every_board(size):
    """All boards of a small size."""
    cells, places = all_cells(*size), squares(*size[:2])
    for copper in itertools.product([True, False], repeat=len(cells)):
        for holes in itertools.product([True, False], repeat=len(places)):
            yield board_of(size, itertools.compress(cells, copper), itertools.compress(places, holes))


def told(board):
    return (board.wide, board.high, board.layers, board.cells(), board.holes())
