"""[8], [9], [10], [11], and [2] and [3] as far as they speak of boards."""

import inspect
import random
import unittest

from copperbook.boards import Board
from copperbook.errors import NoBoard, NoPlace
from copperbook.shapes import Block, Frame, Line
from samples import all_cells, board_of, some_board, squares, told

FAR = 10 ** 40 - 1  # the greatest number of 40 figures
NO_NUMBERS = [True, False, None, "1", "", 1.0]
SIZES = [(1, 1, 1), (12, 12, 3), (1, 12, 2), (12, 1, 1), (3, 2, 2), (2, 5, 3), (4, 4, 1)]


def some_boards():
    return [some_board(size, seed) for size in SIZES for seed in range(4)]


def beyond(size):
    """Cells one step and far beyond each side of a board of this size."""
    wide, high, layers = size
    for off in [-1, -FAR, wide, wide + 1, FAR]:
        yield (off, 0, 0)
    for off in [-1, -FAR, high, high + 1, FAR]:
        yield (0, off, 0)
    for off in [-1, -FAR, layers, layers + 1, FAR]:
        yield (0, 0, off)
    yield (wide, high, layers)
    yield (-1, -1, -1)


class Case(unittest.TestCase):
    def holds(self, board, cells, holes):
        """All that is asked of a board fits this copper and these holes."""
        cells, holes = set(cells), set(holes)
        for x in range(-2, board.wide + 2):
            for y in range(-2, board.high + 2):
                self.assertIs(board.has_hole(x, y), (x, y) in holes)
                self.assertIs(board.is_copper(x, y), (x, y, 0) in cells)
                for z in range(-2, board.layers + 2):
                    self.assertIs(board.is_copper(x, y, z), (x, y, z) in cells)
        self.assertEqual(board.cells(), sorted(cells))
        self.assertEqual(board.cells(None), sorted(cells))
        for z in list(range(-2, board.layers + 2)) + [FAR, -FAR]:
            self.assertEqual(board.cells(z), sorted(cell for cell in cells if cell[2] == z))
        self.assertEqual(board.holes(), sorted(holes))

    def refused(self, board, act, *given):
        kept = told(board)
        with self.subTest(act.__name__, given=repr(given)):
            with self.assertRaises(NoPlace):
                act(*given)
            self.assertEqual(told(board), kept)


class MadeTest(Case):
    def test_all_measures(self):
        for wide in range(1, 13):
            for high in range(1, 13):
                for layers in [1, 2, 3]:
                    board = Board(wide, high, layers)
                    self.assertEqual((board.wide, board.high, board.layers), (wide, high, layers))
                    self.assertEqual((board.cells(), board.holes()), ([], []))

    def test_a_new_board_is_empty(self):
        for size in SIZES:
            self.holds(Board(*size), [], [])

    def test_layers_left_out(self):
        for wide, high in [(1, 1), (12, 12), (1, 12), (12, 1), (5, 7)]:
            board = Board(wide, high)
            self.assertEqual((board.wide, board.high, board.layers), (wide, high, 1))
            self.holds(board, [], [])

    def test_by_name(self):
        board = Board(wide=3, high=2, layers=2)
        self.assertEqual((board.wide, board.high, board.layers), (3, 2, 2))

    def test_measures_that_make_no_board(self):
        wrong = [0, -1, -12, 13, 14, 100, FAR, -FAR] + NO_NUMBERS
        for number in wrong:
            self.no_board(number, 1)
            self.no_board(1, number)
            self.no_board(number, 1, 2)
            self.no_board(12, number, 3)
        for number in wrong + [4, 5, 12]:
            self.no_board(1, 1, number)

    def test_very_long_measures(self):
        for number in [10 ** 5000, -10 ** 5000]:
            for size in [(number, 1, 1), (1, number, 1), (1, 1, number)]:
                with self.assertRaises(NoBoard):
                    Board(*size)

    def no_board(self, *size):
        with self.subTest(repr(size)), self.assertRaises(NoBoard):
            Board(*size)


class ChangedTest(Case):
    def test_put_and_take(self):
        for size in SIZES:
            cells = all_cells(*size)
            board = Board(*size)
            self.assertIsNone(board.put(list(reversed(cells))))
            self.holds(board, cells, [])
            self.assertIsNone(board.take(cells[::2]))
            self.holds(board, cells[1::2], [])
            board.take(cells)
            self.holds(board, [], [])

    def test_one_cell(self):
        for size in SIZES:
            for cell in all_cells(*size)[::37]:
                board = Board(*size)
                board.put([cell])
                self.holds(board, [cell], [])
                board.take([cell])
                self.holds(board, [], [])

    def test_lists_of_none_and_of_one_cell_twice(self):
        board = Board(3, 2, 2)
        board.put([])
        self.holds(board, [], [])
        board.put([(2, 1, 1), (0, 0, 0), (2, 1, 1)])
        self.holds(board, [(0, 0, 0), (2, 1, 1)], [])
        board.take([])
        self.holds(board, [(0, 0, 0), (2, 1, 1)], [])
        board.take([(2, 1, 1), (2, 1, 1)])
        self.holds(board, [(0, 0, 0)], [])

    def test_drill_and_plug(self):
        for size in SIZES:
            holes = squares(size[0], size[1])
            board = Board(*size)
            for hole in reversed(holes):
                self.assertIsNone(board.drill(*hole))
            self.holds(board, [], holes)
            for hole in holes[::2]:
                self.assertIsNone(board.plug(*hole))
            self.holds(board, [], holes[1::2])

    def test_copper_and_holes_do_not_touch_each_other(self):
        board = Board(2, 3, 2)
        board.put([(1, 2, 0), (1, 2, 1)])
        board.drill(1, 2)
        board.drill(0, 0)
        self.holds(board, [(1, 2, 0), (1, 2, 1)], [(0, 0), (1, 2)])
        board.take([(1, 2, 1)])
        self.holds(board, [(1, 2, 0)], [(0, 0), (1, 2)])
        board.plug(1, 2)
        self.holds(board, [(1, 2, 0)], [(0, 0)])

    def test_what_is_so_already_stays(self):
        board = board_of((3, 3, 2), [(0, 0, 0), (1, 1, 1)], [(2, 0)])
        board.put([(0, 0, 0), (1, 1, 1)])
        board.take([(2, 2, 0), (0, 0, 1)])
        board.drill(2, 0)
        board.plug(0, 2)
        board.clear(Block(2, 0, 1, 3), 1)
        board.lay(Block(0, 0, 1, 1))
        self.holds(board, [(0, 0, 0), (1, 1, 1)], [(2, 0)])
        board.plug(2, 0)
        board.plug(2, 0)
        board.take([(0, 0, 0)])
        board.take([(0, 0, 0)])
        self.holds(board, [(1, 1, 1)], [])

    def test_lay_and_clear(self):
        shapes = [Block(0, 0, 7, 6), Block(6, 5, 1, 1), Block(2, 1, 3, 4), Frame(0, 0, 7, 6, 1), Frame(1, 0, 6, 5, 2),
                  Line([(1, 1)], 3), Line([(0, 0), (6, 0), (6, 5), (0, 5), (0, 1)], 1), Line([(5, 4), (1, 4), (1, 1)], 3)]
        full = all_cells(7, 6, 3)
        for shape in shapes:
            for z in range(3):
                cells = [place + (z,) for place in shape.cells()]
                board = Board(7, 6, 3)
                self.assertIsNone(board.lay(shape, z))
                self.holds(board, cells, [])
                board.put(full)
                self.assertIsNone(board.clear(shape, z))
                self.holds(board, set(full) - set(cells), [])

    def test_layer_nought_where_none_is_told(self):
        board = Board(4, 3, 2)
        board.lay(Block(1, 0, 2, 1))
        self.holds(board, [(1, 0, 0), (2, 0, 0)], [])
        board.lay(Block(1, 0, 2, 1), 1)
        board.clear(Block(2, 0, 1, 1))
        self.holds(board, [(1, 0, 0), (1, 0, 1), (2, 0, 1)], [])
        self.assertIs(board.is_copper(2, 0), False)
        self.assertIs(board.is_copper(2, 0, 1), True)
        board.lay(z=1, shape=Block(0, 2, 1, 1))
        board.clear(z=1, shape=Block(1, 0, 2, 1))
        self.holds(board, [(0, 2, 1), (1, 0, 0)], [])

    def test_whole_numbers_alone_are_cells(self):
        board = board_of((3, 3, 2), all_cells(3, 3, 2), squares(3, 3))
        for wrong in [True, False]:
            for cell in [(wrong, 1, 1), (1, wrong, 1), (1, 1, wrong)]:
                self.assertIs(board.is_copper(*cell), False)
            self.assertIs(board.has_hole(wrong, 1), False)
            self.assertIs(board.has_hole(1, wrong), False)
            self.assertEqual(board.cells(wrong), [])

    def test_many_steps(self):
        chance = random.Random(5)
        board, cells, holes = Board(4, 3, 2), set(), set()
        for _ in range(400):
            some = chance.sample(all_cells(4, 3, 2), 3)
            x, y, z = some[0]
            shape = Block(x, y, chance.randint(1, 4 - x), chance.randint(1, 3 - y))
            laid = {place + (z,) for place in shape.cells()}
            step = chance.randrange(6)
            if step == 0:
                board.put(some)
                cells |= set(some)
            elif step == 1:
                board.take(some)
                cells -= set(some)
            elif step == 2:
                board.drill(x, y)
                holes.add((x, y))
            elif step == 3:
                board.plug(x, y)
                holes.discard((x, y))
            elif step == 4:
                board.lay(shape, z)
                cells |= laid
            else:
                board.clear(shape, z)
                cells -= laid
            self.holds(board, cells, holes)


class RefusedTest(Case):
    def test_cells_beyond_each_side(self):
        for size in SIZES:
            board = some_board(size, 3)
            good = all_cells(*size)
            for cell in beyond(size):
                for cells in [[cell], good + [cell], [cell] + good, good[:1] + [cell] + good[1:]]:
                    self.refused(board, board.put, cells)
                    self.refused(board, board.take, cells)
                self.assertIs(board.is_copper(*cell), False)

    def test_holes_beyond_each_side(self):
        for size in SIZES:
            board = some_board(size, 4)
            for hole in {cell[:2] for cell in beyond(size)} - {(0, 0)}:
                self.refused(board, board.drill, *hole)
                self.refused(board, board.plug, *hole)
                self.assertIs(board.has_hole(*hole), False)

    def test_layers_beyond_each_side(self):
        for size in SIZES:
            board = some_board(size, 5)
            for z in [-1, -FAR, size[2], size[2] + 1, FAR]:
                self.refused(board, board.lay, Block(0, 0, 1, 1), z)
                self.refused(board, board.clear, Block(0, 0, 1, 1), z)
                self.assertEqual(board.cells(z), [])
                self.assertIs(board.is_copper(0, 0, z), False)

    def test_shapes_that_leave_the_board_by_one_place(self):
        shapes = [Block(-1, 0, 7, 5), Block(0, -1, 6, 6), Block(0, 0, 7, 5), Block(0, 0, 6, 6), Block(6, 0, 1, 1),
                  Block(0, 5, 1, 1), Block(-1, -1, 1, 1), Frame(-1, 0, 3, 3, 1), Frame(0, -1, 3, 3, 1),
                  Frame(4, 0, 3, 3, 1), Frame(0, 3, 3, 3, 2), Line([(0, 0), (6, 0)], 1), Line([(3, 2), (3, 5)], 1),
                  Line([(2, 2), (-1, 2), (2, 2)], 1), Line([(2, 2), (2, -1), (2, 3)], 1), Line([(0, 1), (3, 1)], 3),
                  Line([(1, 0), (3, 0)], 3), Line([(1, 1), (5, 1)], 3), Line([(1, 1), (1, 4)], 3), Line([(6, 4)], 1)]
        for layers in [1, 3]:
            board = some_board((6, 5, layers), 6)
            for shape in shapes:
                for z in range(layers):
                    self.refused(board, board.lay, shape, z)
                    self.refused(board, board.clear, shape, z)
                self.refused(board, board.lay, shape)
                self.refused(board, board.clear, shape)

    def test_shapes_with_too_many_places_to_be_told(self):
        board = some_board((6, 5, 2), 7)
        for shape in [Block(0, 0, FAR, FAR), Block(-FAR, 0, FAR, 1), Block(1, 1, 1, FAR),
                      Block(-FAR, 0, FAR + 2, 1), Block(0, -FAR, 1, FAR + 2), Block(0, 1, FAR, 1), Frame(0, 0, FAR, 3, 1),
                      Frame(0, 0, 3, FAR, FAR), Line([(0, 0), (FAR, 0)], 1), Line([(1, -FAR), (1, FAR)], 3)]:
            self.refused(board, board.lay, shape, 1)
            self.refused(board, board.clear, shape, 1)

    def test_what_is_no_cell(self):
        board = some_board((3, 3, 2), 8)
        for wrong in NO_NUMBERS:
            for cell in [(wrong, 1, 1), (1, wrong, 1), (1, 1, wrong)]:
                self.refused(board, board.put, [(0, 0, 0), cell])
                self.refused(board, board.take, [(0, 0, 0), cell])
            for act in [board.drill, board.plug]:
                self.refused(board, act, wrong, 1)
                self.refused(board, act, 1, wrong)
            self.refused(board, board.lay, Block(0, 0, 1, 1), wrong)
            self.refused(board, board.clear, Block(0, 0, 1, 1), wrong)
        for cell in [(), (0,), (0, 0), (0, 0, 0, 0), [0, 0, 0], None, 0, "000"]:
            self.refused(board, board.put, [(0, 0, 0), cell])
            self.refused(board, board.take, [(0, 0, 0), cell])


class LikeTest(Case):
    def test_copy_is_the_same(self):
        for board in some_boards():
            other = board.copy()
            self.assertIsNot(other, board)
            self.assertIs(type(other), Board)
            self.assertEqual(told(other), told(board))
            self.assertIs(other.same_as(board), True)
            self.assertIs(board.same_as(other), True)
            self.holds(other, board.cells(), board.holes())

    def test_a_board_and_its_copy_go_their_own_ways(self):
        board = board_of((3, 2, 2), [(0, 0, 0), (1, 1, 1)], [(1, 0)])
        kept = told(board)
        other = board.copy()
        other.put([(2, 1, 0)])
        other.take([(0, 0, 0)])
        other.drill(2, 1)
        other.plug(1, 0)
        self.assertEqual(told(board), kept)
        self.holds(other, [(1, 1, 1), (2, 1, 0)], [(2, 1)])
        kept = told(other)
        board.lay(Block(0, 0, 3, 2), 1)
        board.clear(Block(0, 0, 3, 2))
        board.plug(1, 0)
        board.drill(0, 1)
        self.assertEqual(told(other), kept)
        self.assertIs(board.same_as(other), False)

    def test_same_as_itself_and_one_made_in_another_order(self):
        cells, holes = all_cells(3, 2, 2)[::2], [(0, 0), (2, 1), (1, 0)]
        one = board_of((3, 2, 2), cells, holes)
        other = board_of((3, 2, 2), list(reversed(cells)), list(reversed(holes)))
        self.assertIs(one.same_as(one), True)
        self.assertIs(one.same_as(other), True)

    def test_not_the_same(self):
        board = board_of((3, 3, 2), [(0, 0, 0), (1, 1, 1)], [(1, 0)])
        changes = [lambda b: b.put([(2, 2, 1)]), lambda b: b.take([(1, 1, 1)]), lambda b: b.drill(2, 2),
                   lambda b: b.plug(1, 0)]
        for change in changes:
            other = board.copy()
            change(other)
            self.assertIs(board.same_as(other), False)
            self.assertIs(other.same_as(board), False)
        for size in [(2, 3, 2), (4, 3, 2), (3, 2, 2), (3, 4, 2), (3, 3, 1), (3, 3, 3)]:
            self.assertIs(Board(3, 3, 2).same_as(Board(*size)), False)
            self.assertIs(Board(*size).same_as(Board(3, 3, 2)), False)
        self.assertIs(board_of((2, 2, 2), [(0, 0, 0)], []).same_as(board_of((2, 2, 2), [(0, 0, 1)], [])), False)


class TurnedTest(Case):
    def test_turned(self):
        for board in some_boards():
            kept, high = told(board), board.high
            other = board.turned()
            self.assertEqual((other.wide, other.high, other.layers), (board.high, board.wide, board.layers))
            self.holds(other, [(high - 1 - y, x, z) for x, y, z in board.cells()],
                       [(high - 1 - y, x) for x, y in board.holes()])
            self.assertEqual(told(board), kept)

    def test_mirrored(self):
        for board in some_boards():
            kept, wide = told(board), board.wide
            other = board.mirrored()
            self.assertEqual((other.wide, other.high, other.layers), (board.wide, board.high, board.layers))
            self.holds(other, [(wide - 1 - x, y, z) for x, y, z in board.cells()],
                       [(wide - 1 - x, y) for x, y in board.holes()])
            self.assertEqual(told(board), kept)

    def test_by_hand(self):
        board = board_of((3, 2, 2), [(0, 0, 0), (2, 1, 1)], [(1, 0)])
        self.assertEqual(told(board.turned()), (2, 3, 2, [(0, 2, 1), (1, 0, 0)], [(1, 1)]))
        self.assertEqual(told(board.mirrored()), (3, 2, 2, [(0, 1, 1), (2, 0, 0)], [(1, 0)]))

    def test_four_turns_and_two_mirrorings(self):
        for board in some_boards():
            self.assertIs(board.turned().turned().turned().turned().same_as(board), True)
            self.assertIs(board.mirrored().mirrored().same_as(board), True)

    def test_shapes_are_turned_and_mirrored_with_the_board(self):
        for shape in [Block(1, 0, 3, 2), Frame(0, 1, 5, 3, 1), Line([(0, 0), (4, 0), (4, 3)], 1)]:
            board, turned, mirrored = Board(5, 4, 2), Board(4, 5, 2), Board(5, 4, 2)
            board.lay(shape, 1)
            turned.lay(shape.turned(4), 1)
            mirrored.lay(shape.mirrored(5), 1)
            self.assertIs(board.turned().same_as(turned), True)
            self.assertIs(board.mirrored().same_as(mirrored), True)

    def test_what_is_told_goes_its_own_way(self):
        board = board_of((3, 2, 2), [(0, 0, 0), (2, 1, 1)], [(1, 0)])
        kept = told(board)
        for other in [board.turned(), board.mirrored(), board.copy(), Board(1, 1).turned()]:
            self.assertIs(type(other), Board)
            other.put([(0, 0, 0)])
            other.take(other.cells())
            other.drill(0, 0)
            self.assertEqual(told(board), kept)
        other = board.turned()
        kept = told(other)
        board.lay(Block(0, 0, 3, 2))
        board.drill(0, 1)
        self.assertEqual(told(other), kept)


class KeptTest(Case):
    def test_lists_handed_in_are_not_changed_and_not_kept(self):
        cells = [(2, 1, 0), (0, 0, 0), (2, 1, 0)]
        board = Board(3, 2)
        board.put(cells)
        self.assertEqual(cells, [(2, 1, 0), (0, 0, 0), (2, 1, 0)])
        cells.clear()
        self.holds(board, [(0, 0, 0), (2, 1, 0)], [])
        cells = [(2, 1, 0)]
        board.take(cells)
        self.assertEqual(cells, [(2, 1, 0)])
        cells.append((0, 0, 0))
        self.holds(board, [(0, 0, 0)], [])

    def test_shapes_handed_in_are_not_changed(self):
        line = Line([(0, 0), (2, 0)], 1)
        board = Board(3, 2)
        board.lay(line)
        board.clear(line)
        self.assertEqual((line.told(), line.cells()), ("line 1 0 0 2 0", [(0, 0), (1, 0), (2, 0)]))

    def test_lists_told_are_new_ones(self):
        board = board_of((3, 2, 2), [(0, 0, 0), (2, 1, 1)], [(1, 0)])
        for ask in [board.cells, board.holes, lambda: board.cells(1), lambda: board.cells(9)]:
            kept = list(ask())
            self.assertIs(type(ask()), list)
            self.assertIsNot(ask(), ask())
            ask().append((1, 1, 1))
            ask().clear()
            self.assertEqual(ask(), kept)
        board.take(board.cells())
        self.holds(board, [], [(1, 0)])

    def test_boards_do_not_share_anything(self):
        one, other = Board(2, 2), Board(2, 2)
        one.put([(0, 0, 0)])
        one.drill(1, 1)
        self.holds(other, [], [])


class InterfaceTest(unittest.TestCase):
    def test_arguments_and_defaults(self):
        rows = {"lay": "(self, shape, z=0)", "clear": "(self, shape, z=0)", "put": "(self, cells)",
                "take": "(self, cells)", "drill": "(self, x, y)", "plug": "(self, x, y)",
                "is_copper": "(self, x, y, z=0)", "has_hole": "(self, x, y)", "same_as": "(self, other)",
                "cells": "(self, z=None)", "holes": "(self)", "copy": "(self)", "turned": "(self)",
                "mirrored": "(self)", "__init__": "(self, wide, high, layers=1)"}
        for name, row in rows.items():
            self.assertEqual(str(inspect.signature(getattr(Board, name))), row, name)


if __name__ == "__main__":
    unittest.main()
