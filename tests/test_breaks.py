"""[18], and [2], [3] and [4] as far as they speak of breaks of the rules."""

import inspect
import itertools
import random
import unittest

from copperbook.boards import Board
from copperbook.breaks import breaks
from copperbook.islands import islands
from copperbook.pictures import picture, read_picture
from copperbook.rules import Rules, read_rules
from copperbook.shapes import Block
from samples import all_cells, every_board, some_board, squares, told

FAR = 10 ** 40 - 1  # the greatest number of 40 figures
LOOSE = (0, 1, 0)  # a gap, a width and a rim that nothing breaks


def within(one, other, far):
    return abs(one[0] - other[0]) <= far and abs(one[1] - other[1]) <= far


def gaps_of(board, rules):
    marks = {cell: number for number, island in enumerate(islands(board)) for cell in island}
    for one, other in itertools.combinations(board.cells(), 2):
        if one[2] == other[2] and marks[one] != marks[other] and within(one, other, rules.gap):
            yield ("gap", one, other)


def keeps_of(board, rules):
    for cell in board.cells():
        for x, y, wide, high, z in rules.keeps:
            if cell[2] == z and x <= cell[0] < x + wide and y <= cell[1] < y + high:
                yield ("keep", cell)


def rims_of(board, rules):
    for hole in board.holes():
        for cell in itertools.product(range(-1, board.wide + 1), range(-1, board.high + 1), range(board.layers)):
            if within(hole, cell, rules.rim) and board.is_copper(*hole, cell[2]) and not board.is_copper(*cell):
                yield ("rim", hole, cell)


def widths_of(board, rules):
    wide = rules.width
    for x, y, z in board.cells():
        corners = itertools.product(range(x - wide + 1, x + 1), range(y - wide + 1, y + 1))
        if not any(all(board.is_copper(left + across, top + down, z) for across, down in squares(wide, wide))
                   for left, top in corners):
            yield ("width", (x, y, z))


def word_by_word(board, rules):
    """All breaks, as the document says them."""
    found = [kind(board, rules) for kind in [gaps_of, keeps_of, rims_of, widths_of]]
    return sorted(set(itertools.chain(*found)))


def some_keeps(size, seed, many):
    chance = random.Random(seed)
    wide, high, layers = size
    return [(chance.randrange(wide + 1), chance.randrange(high + 1), chance.randint(1, wide), chance.randint(1, high),
             chance.randrange(layers + 1)) for _ in range(many)]


class Case(unittest.TestCase):
    def check(self, board, rules):
        """What is told, held against the document's words, and what was handed in, held against itself."""
        before = (told(board), rules.told(), list(rules.keeps))
        found = breaks(board, rules)
        self.assertEqual(found, word_by_word(board, rules))
        self.assertIs(type(found), list)
        self.assertEqual((told(board), rules.told(), rules.keeps), before)
        return found

    def broken(self, text, numbers, keeps=()):
        """The breaks of a picture."""
        return self.check(read_picture(text), Rules(*numbers, list(keeps)))


class GapTest(Case):
    def test_corner_by_corner(self):
        text = "board 2 2 1\n#.\n.#\n"
        self.assertEqual(self.broken(text, (0, 1, 0)), [])
        self.assertEqual(self.broken(text, (1, 1, 0)), [("gap", (0, 0, 0), (1, 1, 0))])
        self.assertEqual(self.broken(text, (2, 1, 0)), [("gap", (0, 0, 0), (1, 1, 0))])
        other = "board 2 2 1\n.#\n#.\n"
        self.assertEqual(self.broken(other, (1, 1, 0)), [("gap", (0, 1, 0), (1, 0, 0))])

    def test_two_apart(self):
        for text, one, other in [("board 3 1 1\n#.#\n", (0, 0, 0), (2, 0, 0)),
                                 ("board 1 3 1\n#\n.\n#\n", (0, 0, 0), (0, 2, 0)),
                                 ("board 3 3 1\n#..\n...\n..#\n", (0, 0, 0), (2, 2, 0)),
                                 ("board 3 3 1\n..#\n...\n#..\n", (0, 2, 0), (2, 0, 0)),
                                 ("board 3 2 1\n#..\n..#\n", (0, 0, 0), (2, 1, 0)),
                                 ("board 2 3 1\n.#\n..\n#.\n", (0, 2, 0), (1, 0, 0))]:
            self.assertEqual(self.broken(text, (0, 1, 0)), [])
            self.assertEqual(self.broken(text, (1, 1, 0)), [])
            self.assertEqual(self.broken(text, (2, 1, 0)), [("gap", one, other)])

    def test_three_apart(self):
        for text in ["board 4 1 1\n#..#\n", "board 1 4 1\n#\n.\n.\n#\n", "board 4 2 1\n#...\n...#\n"]:
            for gap in [0, 1, 2]:
                self.assertEqual(self.broken(text, (gap, 1, 0)), [])

    def test_never_within_one_island(self):
        for text in ["board 3 3 1\n###\n#.#\n###\n", "board 3 2 1\n#.#\n###\n", "board 3 3 1\n##.\n.##\n..#\n"]:
            for gap in [0, 1, 2]:
                self.assertEqual(self.broken(text, (gap, 1, 0)), [])

    def test_an_island_through_a_hole_and_another_layer(self):
        self.assertEqual(self.broken("board 3 1 2\nO.O\nO#O\n", (2, 1, 0)), [])
        self.assertEqual(self.broken("board 2 2 2\nO.\n.O\nO#\n.O\n", (2, 1, 0)), [])
        self.assertEqual(self.broken("board 3 1 2\nO.#\nO##\n", (2, 1, 0)), [("gap", (0, 0, 0), (2, 0, 0))])
        self.assertEqual(self.broken("board 3 1 3\nO.O\no.o\nO#O\n", (2, 1, 0)), [])

    def test_one_layer_alone(self):
        self.assertEqual(self.broken("board 2 1 2\n#.\n.#\n", (2, 1, 0)), [])
        self.assertEqual(self.broken("board 1 1 3\n#\n#\n#\n", (2, 1, 0)), [])
        self.assertEqual(self.broken("board 2 2 3\n#.\n.#\n..\n..\n.#\n#.\n", (1, 1, 0)),
                         [("gap", (0, 0, 0), (1, 1, 0)), ("gap", (0, 1, 2), (1, 0, 2))])

    def test_each_two_cells_of_three_islands(self):
        self.assertEqual(self.broken("board 5 1 1\n#.#.#\n", (2, 1, 0)),
                         [("gap", (0, 0, 0), (2, 0, 0)), ("gap", (2, 0, 0), (4, 0, 0))])
        self.assertEqual(self.broken("board 3 2 1\n##.\n..#\n", (2, 1, 0)),
                         [("gap", (0, 0, 0), (2, 1, 0)), ("gap", (1, 0, 0), (2, 1, 0))])
        self.assertEqual(self.broken("board 3 2 1\n##.\n..#\n", (1, 1, 0)), [("gap", (1, 0, 0), (2, 1, 0))])


class KeepTest(Case):
    def test_each_layer(self):
        board = Board(2, 2, 3)
        board.put(all_cells(2, 2, 3))
        for z in range(3):
            found = self.check(board, Rules(*LOOSE, [(0, 0, 2, 2, z)]))
            self.assertEqual(found, [("keep", (x, y, z)) for x, y in squares(2, 2)])
        self.assertEqual(self.check(board, Rules(*LOOSE, [(0, 0, 2, 2, 3)])), [])

    def test_from_its_corner_on_and_below_its_end(self):
        board = Board(5, 5)
        board.lay(Block(0, 0, 5, 5))
        found = self.check(board, Rules(*LOOSE, [(1, 2, 3, 2, 0)]))
        self.assertEqual(found, [("keep", (x, y, 0)) for x in [1, 2, 3] for y in [2, 3]])
        self.assertEqual(self.check(board, Rules(*LOOSE, [(4, 0, 1, 1, 0)])), [("keep", (4, 0, 0))])

    def test_copper_alone(self):
        self.assertEqual(self.broken("board 3 1 1\n#o.\n", LOOSE, [(0, 0, 3, 1, 0)]), [("keep", (0, 0, 0))])
        self.assertEqual(self.broken("board 3 1 1\n.o.\n", LOOSE, [(0, 0, 3, 1, 0)]), [])

    def test_beyond_the_board(self):
        board = Board(3, 3)
        board.lay(Block(0, 0, 3, 3))
        for keep in [(3, 0, 1, 1, 0), (0, 3, 1, 1, 0), (3, 3, 5, 5, 0), (0, 0, 3, 3, 1), (12, 12, 12, 12, 2)]:
            self.assertEqual(self.check(board, Rules(*LOOSE, [keep])), [])
        self.assertEqual(self.check(board, Rules(*LOOSE, [(2, 1, 5, 9, 0)])),
                         [("keep", (2, 1, 0)), ("keep", (2, 2, 0))])

    def test_numbers_of_forty_figures(self):
        board = Board(2, 1)
        board.lay(Block(0, 0, 2, 1))
        whole = [("keep", (0, 0, 0)), ("keep", (1, 0, 0))]
        for keep, found in [((0, 0, FAR, FAR, 0), whole), ((1, 0, FAR, FAR, 0), whole[1:]), ((FAR, 0, FAR, 1, 0), []),
                            ((0, FAR, 1, FAR, 0), []), ((0, 0, FAR, FAR, FAR), []), ((FAR,) * 5, [])]:
            self.assertEqual(self.check(board, Rules(*LOOSE, [keep])), found)

    def test_several_keeps_over_one_cell(self):
        keeps = [(0, 0, 2, 1, 0), (1, 0, 2, 1, 0), (1, 0, 1, 1, 0), (1, 0, 1, 1, 0)]
        self.assertEqual(self.broken("board 3 1 1\n.#.\n", LOOSE, keeps), [("keep", (1, 0, 0))])
        self.assertEqual(self.broken("board 3 1 1\n###\n", LOOSE, keeps), [("keep", (x, 0, 0)) for x in range(3)])

    def test_twelve_keeps(self):
        board = Board(12, 12)
        board.lay(Block(0, 0, 12, 12))
        found = self.check(board, Rules(*LOOSE, [(k, 11 - k, 1, 1, 0) for k in range(12)]))
        self.assertEqual(found, [("keep", (k, 11 - k, 0)) for k in range(12)])


class RimTest(Case):
    def test_none_asked_for(self):
        self.assertEqual(self.broken("board 1 1 1\nO\n", (0, 1, 0)), [])
        self.assertEqual(self.broken("board 3 3 2\n...\n.O.\n...\n...\n.o.\n...\n", (0, 1, 0)), [])

    def test_cells_beyond_the_edge(self):
        ring = [(x, y, 0) for x, y in itertools.product([-1, 0, 1], repeat=2) if (x, y) != (0, 0)]
        self.assertEqual(self.broken("board 1 1 1\nO\n", (0, 1, 1)), [("rim", (0, 0), cell) for cell in ring])

    def test_at_a_corner(self):
        self.assertEqual(self.broken("board 2 2 1\nO#\n##\n", (0, 1, 1)),
                         [("rim", (0, 0), cell) for cell in [(-1, -1, 0), (-1, 0, 0), (-1, 1, 0), (0, -1, 0), (1, -1, 0)]])
        self.assertEqual(self.broken("board 2 2 1\n##\n#O\n", (0, 1, 1)),
                         [("rim", (1, 1), cell) for cell in [(0, 2, 0), (1, 2, 0), (2, 0, 0), (2, 1, 0), (2, 2, 0)]])

    def test_at_an_edge(self):
        self.assertEqual(self.broken("board 3 2 1\n#O#\n###\n", (0, 1, 1)),
                         [("rim", (1, 0), (x, -1, 0)) for x in range(3)])
        self.assertEqual(self.broken("board 3 2 1\n###\n#O#\n", (0, 1, 1)),
                         [("rim", (1, 1), (x, 2, 0)) for x in range(3)])

    def test_in_the_midst(self):
        self.assertEqual(self.broken("board 3 3 1\n###\n#O#\n###\n", (0, 1, 1)), [])
        self.assertEqual(self.broken("board 3 3 1\n##.\n#O#\n###\n", (0, 1, 1)), [("rim", (1, 1), (2, 0, 0))])
        self.assertEqual(self.broken("board 3 3 1\n###\n.O#\n###\n", (0, 1, 1)), [("rim", (1, 1), (0, 1, 0))])
        self.assertEqual(self.broken("board 5 5 1\n.....\n.###.\n.#O#.\n.###.\n.....\n", (0, 1, 1)), [])

    def test_a_hole_without_copper_in_a_layer(self):
        self.assertEqual(self.broken("board 3 3 2\n###\n#O#\n###\n...\n.o.\n...\n", (0, 1, 1)), [])
        self.assertEqual(self.broken("board 3 3 2\n###\n#o#\n###\n...\n.o.\n...\n", (0, 1, 1)), [])
        found = self.broken("board 3 3 3\n...\n.o.\n...\n###\n#O#\n##.\n###\n#O.\n###\n", (0, 1, 1))
        self.assertEqual(found, [("rim", (1, 1), (2, 1, 2)), ("rim", (1, 1), (2, 2, 1))])

    def test_two_holes_near_one_cell(self):
        found = self.broken("board 4 3 1\n####\n#OO#\n##.#\n", (0, 1, 1))
        self.assertEqual(found, [("rim", (1, 1), (2, 2, 0)), ("rim", (2, 1), (2, 2, 0))])


class WidthTest(Case):
    def test_one(self):
        self.assertEqual(self.broken("board 3 2 2\n#.#\n.#.\n###\n..#\n", (0, 1, 0)), [])

    def test_two(self):
        self.assertEqual(self.broken("board 3 2 1\n###\n##.\n", (0, 2, 0)), [("width", (2, 0, 0))])
        self.assertEqual(self.broken("board 3 2 1\n###\n###\n", (0, 2, 0)), [])
        self.assertEqual(self.broken("board 3 1 1\n##.\n", (0, 2, 0)), [("width", (0, 0, 0)), ("width", (1, 0, 0))])
        self.assertEqual(self.broken("board 3 3 1\n##.\n###\n.##\n", (0, 2, 0)), [])

    def test_three(self):
        self.assertEqual(self.broken("board 3 3 1\n###\n###\n###\n", (0, 3, 0)), [])
        self.assertEqual(self.broken("board 4 3 1\n####\n###.\n###.\n", (0, 3, 0)), [("width", (3, 0, 0))])
        self.assertEqual(self.broken("board 4 4 1\n####\n####\n####\n####\n", (0, 3, 0)), [])
        self.assertEqual(self.broken("board 3 3 1\n###\n#.#\n###\n", (0, 3, 0)),
                         [("width", (x, y, 0)) for x, y in squares(3, 3) if (x, y) != (1, 1)])

    def test_a_board_too_small(self):
        for wide, high in [(1, 1), (1, 12), (12, 1), (2, 12), (12, 2)]:
            board = Board(wide, high)
            board.lay(Block(0, 0, wide, high))
            whole = [("width", cell) for cell in board.cells()]
            self.assertEqual(self.check(board, Rules(0, 3, 0, [])), whole)
            self.assertEqual(self.check(board, Rules(0, 2, 0, [])), whole if min(wide, high) == 1 else [])

    def test_layer_by_layer(self):
        self.assertEqual(self.broken("board 2 2 2\n#O\n##\n#O\n.#\n", (0, 2, 0)),
                         [("width", (x, y, 1)) for x, y in [(0, 0), (1, 0), (1, 1)]])

    def test_holes_are_no_gaps_in_copper(self):
        self.assertEqual(self.broken("board 2 2 1\nOO\nOO\n", (0, 2, 0)), [])


class WholeTest(Case):
    def test_all_kinds_on_one_board(self):
        found = self.broken("board 4 2 1\nO#.#\n##..\n", (2, 2, 1), [(0, 1, 1, 1, 0)])
        self.assertEqual(found, [
            ("gap", (1, 0, 0), (3, 0, 0)), ("gap", (1, 1, 0), (3, 0, 0)),
            ("keep", (0, 1, 0)),
            ("rim", (0, 0), (-1, -1, 0)), ("rim", (0, 0), (-1, 0, 0)), ("rim", (0, 0), (-1, 1, 0)),
            ("rim", (0, 0), (0, -1, 0)), ("rim", (0, 0), (1, -1, 0)),
            ("width", (3, 0, 0))])

    def test_no_copper(self):
        for board in [Board(1, 1), Board(12, 12, 3), read_picture("board 2 2 2\noo\n.o\noo\n.o\n")]:
            for numbers in itertools.product([0, 1, 2], [1, 2, 3], [0, 1]):
                self.assertEqual(self.check(board, Rules(*numbers, [(0, 0, 12, 12, 0)])), [])

    def test_all_small_boards(self):
        for size in [(3, 2, 1), (2, 1, 2), (1, 2, 3), (4, 1, 1)]:
            keeps = some_keeps(size, 5, 2)
            for numbers in [(0, 1, 0), (1, 2, 1), (2, 3, 1)]:
                rules = Rules(*numbers, keeps)
                for board in every_board(size):
                    self.check(board, rules)

    def test_larger_boards_by_all_rules(self):
        for size in [(12, 12, 1), (6, 5, 2), (4, 4, 3), (3, 9, 2), (9, 1, 3)]:
            for seed, share in enumerate([0.2, 0.5, 0.8, 0.95]):
                board = some_board(size, seed, share)
                for numbers in itertools.product([0, 1, 2], [1, 2, 3], [0, 1]):
                    self.check(board, Rules(*numbers, some_keeps(size, seed, 2 * sum(numbers))))

    def test_the_largest_board(self):
        for share in [0.5, 0.9]:
            self.check(some_board((12, 12, 3), 3, share), Rules(2, 3, 1, some_keeps((12, 12, 3), 3, 12)))

    def test_sorted_as_tuples_are(self):
        found = breaks(some_board((12, 12, 2), 4), Rules(2, 2, 1, [(0, 0, 5, 12, 1), (3, 3, 12, 12, 0)]))
        self.assertEqual(found, sorted(found))
        self.assertEqual({row[0] for row in found}, {"gap", "keep", "rim", "width"})
        self.assertEqual(len(found), len(set(found)))
        for row in found:
            self.assertIs(type(row), tuple)
            self.assertEqual({type(part) for part in row[1:]}, {tuple})


class AgainTest(Case):
    def test_behind_a_cell_more_and_less(self):
        board, rules = read_picture("board 3 1 1\n#.#\n"), Rules(2, 1, 0, [])
        first = breaks(board, rules)
        self.assertEqual(first, [("gap", (0, 0, 0), (2, 0, 0))])
        board.put([(1, 0, 0)])
        self.assertEqual(breaks(board, rules), [])
        board.take([(1, 0, 0)])
        self.assertEqual(breaks(board, rules), first)

    def test_behind_a_hole_more_and_less(self):
        board, rules = read_picture("board 3 1 2\n#.O\n##O\n"), Rules(2, 1, 0, [])
        first = breaks(board, rules)
        self.assertEqual(first, [("gap", (0, 0, 0), (2, 0, 0))])
        board.drill(0, 0)
        self.assertEqual(breaks(board, rules), [])
        board.plug(0, 0)
        self.assertEqual(breaks(board, rules), first)

    def test_each_cell_and_hole_of_a_board(self):
        size = (5, 4, 2)
        board, rules = some_board(size, 8, 0.6), Rules(2, 2, 1, [(0, 0, 2, 4, 1)])
        first = self.check(board, rules)
        for cell in all_cells(*size):
            there, back = (board.take, board.put) if board.is_copper(*cell) else (board.put, board.take)
            there([cell])
            self.check(board, rules)
            back([cell])
            self.assertEqual(breaks(board, rules), first)
        for hole in squares(5, 4):
            there, back = (board.plug, board.drill) if board.has_hole(*hole) else (board.drill, board.plug)
            there(*hole)
            self.check(board, rules)
            back(*hole)
            self.assertEqual(breaks(board, rules), first)

    def test_by_other_rules_in_turn(self):
        board = some_board((6, 6, 2), 2, 0.6)
        rows = [Rules(*numbers, keeps) for numbers in itertools.product([0, 1, 2], [1, 2, 3], [0, 1])
                for keeps in [[], [(1, 1, 2, 2, 1)]]]
        first = [breaks(board, rules) for rules in rows]
        for rules, found in reversed(list(zip(rows, first))):
            self.assertEqual(breaks(board, rules), found)
            self.assertEqual(breaks(board.copy(), read_rules(rules.told())), found)

    def test_a_list_told_and_changed(self):
        board, rules = read_picture("board 2 2 1\nO.\n.#\n"), Rules(1, 2, 1, [(0, 0, 1, 1, 0)])
        text, kept = picture(board), rules.told()
        found = breaks(board, rules)
        same = list(found)
        found.append(("gap", (0, 0, 0), (0, 1, 0)))
        found[0] = None
        self.assertEqual(breaks(board, rules), same)
        found.clear()
        self.assertEqual(breaks(board, rules), same)
        self.assertEqual((picture(board), rules.told()), (text, kept))

    def test_keeps_handed_in_or_told_and_changed(self):
        board, keeps = read_picture("board 2 1 1\n##\n"), [(1, 0, 1, 1, 0)]
        rules = Rules(*LOOSE, keeps)
        keeps.append((0, 0, 2, 2, 0))
        self.assertEqual(breaks(board, rules), [("keep", (1, 0, 0))])
        rules.keeps.append((0, 0, 2, 2, 0))
        self.assertEqual(breaks(board, rules), [("keep", (1, 0, 0))])
        rules.keeps.clear()
        self.assertEqual(breaks(board, rules), [("keep", (1, 0, 0))])


class InterfaceTest(unittest.TestCase):
    def test_arguments(self):
        self.assertEqual(str(inspect.signature(breaks)), "(board, rules)")


if __name__ == "__main__":
    unittest.main()
