"""[4] and [11] over the whole: what is told of a board turned and mirrored is that of the board, put where it lies."""

import importlib
import inspect
import itertools
import random
import unittest

from copperbook.against import against
from copperbook.breaks import breaks
from copperbook.errors import CopperError
from copperbook.islands import island_of, islands, near, walk
from copperbook.laying import lay_all
from copperbook.pictures import picture, read_picture
from copperbook.rules import Rules, read_rules
from copperbook.shapes import Block
from copperbook.waves import wave
from samples import all_cells, plain_drawing, some_board, some_drawing, told

SIZES = [(12, 12, 3), (5, 4, 2), (7, 3, 1), (1, 9, 2), (3, 3, 3), (1, 1, 1), (12, 1, 1)]
CLASSES = {"errors": "CopperError NoShape NoBoard NoPlace NoPicture NoCopper NoRules NoDrawing NoPin NoSpan NoLay",
           "shapes": "Shape Block Line Frame", "boards": "Board", "rules": "Rules", "drawings": "Drawing"}
FUNCTIONS = {"shapes": ["read_shape(text)"], "pictures": ["picture(board)", "read_picture(text)"],
             "islands": ["near(board, cell)", "island_of(board, cell)", "islands(board)", "walk(board, one, other)"],
             "rules": ["read_rules(text)"], "breaks": ["breaks(board, rules)"],
             "against": ["against(board, drawing, places)"], "alike": ["alike(one, other)"],
             "waves": ["wave(size, price, through, starts, goals)"], "channels": ["lanes(spans)"],
             "laying": ["lay_all(board, rules, drawing, places, order=None)"]}


class Turn:
    """A board turned by some quarters, behind that mirrored or not, and where each thing of it comes to lie."""

    def __init__(self, board, quarters, flipped):
        self.board, self.moves = board, []
        for _ in range(quarters):
            self.moves.append(("turned", self.board.high))
            self.board = self.board.turned()
        if flipped:
            self.moves.append(("mirrored", self.board.wide))
            self.board = self.board.mirrored()

    def cell(self, cell):
        x, y = cell[:2]
        for word, size in self.moves:
            x, y = (size - 1 - y, x) if word == "turned" else (size - 1 - x, y)
        return (x, y, *cell[2:])

    def cells(self, cells):
        return sorted(map(self.cell, cells))

    def keep(self, keep):
        block = Block(*keep[:4])
        for word, size in self.moves:
            block = getattr(block, word)(size)
        return (block.x, block.y, block.wide, block.high, keep[4])

    def row(self, row):
        """A break of the board, as it is told of the turned one."""
        moved = [self.cell(cell) for cell in row[1:]]
        return (row[0], *(sorted(moved) if row[0] == "gap" else moved))


def turns():
    """Boards of all sizes with each of their eight turns."""
    for seed, size in enumerate(SIZES):
        for share in [0.3, 0.6]:
            board = some_board(size, seed, share)
            for quarters, flipped in itertools.product(range(4), [False, True]):
                yield board, Turn(board, quarters, flipped), random.Random(seed)


def way_price(board, cells):
    """How dear a way is, with holes that stand on the board and new ones."""
    changes = [one for one, other in zip(cells, cells[1:]) if one[2] != other[2]]
    return len(cells) - 1 + sum(1 if board.has_hole(x, y) else 3 for x, y, _ in changes)


class TurnTest(unittest.TestCase):
    def test_copper_and_holes(self):
        for board, turn, _ in turns():
            self.assertEqual(turn.board.cells(), turn.cells(board.cells()))
            self.assertEqual(turn.board.holes(), turn.cells(board.holes()))
            self.assertTrue(read_picture(picture(turn.board)).same_as(turn.board))

    def test_islands(self):
        for board, turn, _ in turns():
            self.assertEqual(islands(turn.board), sorted(turn.cells(island) for island in islands(board)))
            for cell in board.cells():
                self.assertEqual(near(turn.board, turn.cell(cell)), turn.cells(near(board, cell)))
            for cell in board.cells()[:5]:
                self.assertEqual(island_of(turn.board, turn.cell(cell)), turn.cells(island_of(board, cell)))

    def test_walks(self):
        for board, turn, chance in turns():
            for _ in range(6 if board.cells() else 0):
                one, other = chance.choices(board.cells(), k=2)
                here, there = walk(board, one, other), walk(turn.board, turn.cell(one), turn.cell(other))
                self.assertEqual(here and len(here), there and len(there))
                self.assertEqual(here is not None, other in island_of(board, one))

    def test_breaks(self):
        for board, turn, chance in turns():
            keeps = []
            for _ in range(3):
                x, y = chance.randrange(board.wide), chance.randrange(board.high)
                keeps.append((x, y, chance.randint(1, board.wide - x), chance.randint(1, board.high - y), chance.randrange(3)))
            for gap, width, rim in [(0, 1, 0), (1, 2, 1), (2, 3, 1)]:
                rules = Rules(gap, width, rim, keeps)
                turned = read_rules(Rules(gap, width, rim, [turn.keep(keep) for keep in keeps]).told())
                self.assertEqual(breaks(turn.board, turned), sorted(turn.row(row) for row in breaks(board, rules)))

    def test_faults(self):
        for board, turn, chance in turns():
            drawing = some_drawing(len(board.cells()), 4)
            spots = all_cells(board.wide, board.high, board.layers)
            places = {pin: chance.choice(board.cells() or spots) for pin in drawing.pins()}
            moved = {pin: turn.cell(cell) for pin, cell in places.items()}
            self.assertEqual(against(turn.board, drawing, moved), against(board, drawing, places))

    def test_waves(self):
        for board, turn, chance in turns():
            size, after = [(one.wide, one.high, one.layers) for one in [board, turn.board]]
            prices = {cell: chance.choice([1, 2, 5]) for cell in board.cells()}
            holes = {hole: chance.choice([1, 3]) for hole in board.holes()}
            starts, goals = [chance.choices(all_cells(*size), k=3) for _ in "ab"]
            here = wave(size, prices.get, lambda x, y: holes.get((x, y)), starts, goals)
            prices = {turn.cell(cell): price for cell, price in prices.items()}
            holes = {turn.cell(hole): price for hole, price in holes.items()}
            there = wave(after, prices.get, lambda x, y: holes.get((x, y)), turn.cells(starts), turn.cells(goals))
            self.assertEqual(there[0], here[0])
            self.assertEqual(there[2:-1], here[2:-1])
            self.assertEqual(there[-1], {turn.cell(cell): number for cell, number in here[-1].items()})

    def test_a_wave_on_copper_is_as_long_as_a_walk(self):
        for board, turn, chance in turns():
            copper, holes = set(turn.board.cells()), set(turn.board.holes())
            for _ in range(3 if copper else 0):
                one, other = chance.choices(sorted(copper), k=2)
                size = (turn.board.wide, turn.board.high, turn.board.layers)
                # Ten times as dear through a hole, a way is no shorter than the walk.
                found = wave(size, lambda cell: 1 if cell in copper else None, lambda x, y: 9 if (x, y) in holes else None,
                             [one], [other])
                cells = walk(turn.board, one, other)
                self.assertEqual(found[0] == "way", cells is not None)
                self.assertEqual(sorted(found[-1]), island_of(turn.board, one))
                if cells is not None:
                    self.assertGreaterEqual(len(found[1]), len(cells))

    def test_laying(self):
        # Of one net with two pins the way is as dear, and of a shut one the numbers are the same.
        words, drawing = set(), plain_drawing([("k", 2)], [[(0, 0), (0, 1)]])
        for board, turn, chance in turns():
            lands = islands(board)
            if len(lands) < 2:
                continue
            places = dict(zip(drawing.pins(), [chance.choice(island) for island in chance.sample(lands, 2)]))
            moved = {pin: turn.cell(cell) for pin, cell in places.items()}
            here = lay_all(board, Rules(0, 1, 0, []), drawing, places)
            there = lay_all(turn.board, Rules(0, 1, 0, []), drawing, moved)
            self.assertEqual(there[0], here[0])
            words.add(here[0])
            if here[0] == "shut":
                self.assertEqual(there[1:3], here[1:3])
                self.assertEqual(there[3], {turn.cell(cell): number for cell, number in here[3].items()})
            else:
                [(_, one)], [(_, other)] = here[2], there[2]
                self.assertEqual(way_price(turn.board, other), way_price(board, one))
                self.assertEqual(against(there[1], drawing, moved), [])
        self.assertEqual(words, {"laid", "shut"})

    def test_four_quarters_and_two_mirrorings(self):
        for board, _, _ in turns():
            self.assertEqual(told(board.turned().turned().turned().turned()), told(board))
            self.assertEqual(told(board.mirrored().mirrored()), told(board))
            self.assertEqual(told(board.turned().mirrored().turned()), told(board.mirrored()))


class InterfaceTest(unittest.TestCase):
    def test_functions(self):
        for name, rows in FUNCTIONS.items():
            module = importlib.import_module("copperbook." + name)
            for row in rows:
                function = getattr(module, row.split("(")[0])
                self.assertEqual(function.__name__ + str(inspect.signature(function)), row)
                self.assertEqual(function.__module__, module.__name__)

    def test_classes(self):
        found = {}
        for name, words in CLASSES.items():
            module = importlib.import_module("copperbook." + name)
            for word in words.split():
                found[word] = getattr(module, word)
                self.assertIs(type(found[word]), type)
        self.assertEqual(CopperError.__bases__, (ValueError,))
        for word, kind in found.items():
            if word.startswith("No"):
                self.assertEqual(kind.__bases__, (CopperError,))
            if word in ["Block", "Line", "Frame"]:
                self.assertEqual(kind.__bases__, (found["Shape"],))


if __name__ == "__main__":
    unittest.main()
