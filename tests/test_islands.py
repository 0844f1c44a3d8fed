"""[13], [14], [15], [16], and [2] and [4] as far as they speak of islands and walks."""

import inspect
import unittest

from copperbook.boards import Board
from copperbook.errors import NoCopper
from copperbook.islands import homes, island_of, islands, near, walk
from copperbook.pictures import picture, read_picture
from copperbook.shapes import Block
from samples import all_cells, every_board, some_board


def joined(board, one, other):
    """Whether two cells are neighbours, word by word as the document says it."""
    side = one[2] == other[2] and abs(one[0] - other[0]) + abs(one[1] - other[1]) == 1
    over = one[:2] == other[:2] and one[2] != other[2] and one[:2] in board.holes()
    return side or over


def steps_between(board):
    """A dict from each two joined cells to the least number of steps from the one to the other."""
    cells = board.cells()
    links = {one: [other for other in cells if joined(board, one, other)] for one in cells}
    steps = {}
    for one in cells:
        steps[one, one] = 0
        edge, far = [one], 0
        while edge:
            far += 1
            edge = sorted({other for cell in edge for other in links[cell] if (one, other) not in steps})
            steps.update({(one, other): far for other in edge})
    return steps


def small_boards():
    for size in [(3, 2, 1), (1, 1, 3), (2, 1, 2), (1, 2, 3)]:
        yield from every_board(size)


def large_boards():
    for size in [(12, 12, 1), (7, 5, 2), (5, 4, 3), (3, 3, 3), (12, 2, 2), (4, 6, 1)]:
        for share in [0.3, 0.5, 0.7]:
            yield some_board(size, 11, share)


class Case(unittest.TestCase):
    def check(self, board):
        """All that is told of a board, held against the document's words."""
        text, cells, steps = picture(board), board.cells(), steps_between(board)
        whole = [[other for other in cells if (one, other) in steps] for one in cells]
        self.assertEqual(islands(board), [island for one, island in zip(cells, whole) if one == island[0]])
        self.assertEqual(homes(board), {one: island[0] for one, island in zip(cells, whole)})
        for one, island in zip(cells, whole):
            self.assertEqual(near(board, one), [other for other in cells if joined(board, one, other)])
            self.assertEqual(island_of(board, one), island)
        for one in cells[::1 + len(cells) // 25]:
            for other in cells[::1 + len(cells) // 25]:
                self.check_walk(board, one, other, steps)
        self.assertEqual(picture(board), text)

    def check_walk(self, board, one, other, steps):
        way = walk(board, one, other)
        if (one, other) not in steps:
            self.assertIsNone(way)
            return
        self.assertIs(type(way), list)
        self.assertEqual((way[0], way[-1]), (one, other))
        self.assertEqual(len(way), steps[one, other] + 1)
        for cell, following in zip(way, way[1:]):
            self.assertTrue(board.is_copper(*following))
            self.assertTrue(joined(board, cell, following))


class NearTest(Case):
    def test_side_by_side_not_corner_by_corner(self):
        board = Board(3, 3)
        board.lay(Block(0, 0, 3, 3))
        self.assertEqual(near(board, (1, 1, 0)), [(0, 1, 0), (1, 0, 0), (1, 2, 0), (2, 1, 0)])
        self.assertEqual(near(board, (0, 0, 0)), [(0, 1, 0), (1, 0, 0)])
        self.assertEqual(near(board, (2, 2, 0)), [(1, 2, 0), (2, 1, 0)])
        self.assertEqual(near(read_picture("board 2 2 1\n#.\n.#\n"), (0, 0, 0)), [])
        self.assertEqual(near(read_picture("board 2 2 1\n.#\n#.\n"), (1, 0, 0)), [])

    def test_two_apart_are_no_neighbours(self):
        self.assertEqual(near(read_picture("board 3 1 1\n#.#\n"), (0, 0, 0)), [])
        self.assertEqual(near(read_picture("board 1 3 1\n#\n.\n#\n"), (0, 2, 0)), [])

    def test_over_one_another_at_a_hole_alone(self):
        board = read_picture("board 2 1 2\n##\n##\n")
        self.assertEqual(near(board, (0, 0, 0)), [(1, 0, 0)])
        board.drill(0, 0)
        self.assertEqual(near(board, (0, 0, 0)), [(0, 0, 1), (1, 0, 0)])
        self.assertEqual(near(board, (0, 0, 1)), [(0, 0, 0), (1, 0, 1)])
        self.assertEqual(near(board, (1, 0, 0)), [(0, 0, 0)])

    def test_through_three_layers(self):
        board = read_picture("board 1 1 3\nO\nO\nO\n")
        self.assertEqual(near(board, (0, 0, 0)), [(0, 0, 1), (0, 0, 2)])
        self.assertEqual(near(board, (0, 0, 1)), [(0, 0, 0), (0, 0, 2)])
        self.assertEqual(near(board, (0, 0, 2)), [(0, 0, 0), (0, 0, 1)])

    def test_through_a_middle_layer_without_copper(self):
        board = read_picture("board 1 1 3\nO\no\nO\n")
        self.assertEqual(near(board, (0, 0, 0)), [(0, 0, 2)])
        self.assertEqual(near(board, (0, 0, 2)), [(0, 0, 0)])
        self.assertEqual(walk(board, (0, 0, 2), (0, 0, 0)), [(0, 0, 2), (0, 0, 0)])
        self.assertEqual(islands(board), [[(0, 0, 0), (0, 0, 2)]])

    def test_a_hole_without_copper_joins_nothing(self):
        board = read_picture("board 3 1 2\n#o#\n#o#\n")
        self.assertEqual(islands(board), [[(0, 0, 0)], [(0, 0, 1)], [(2, 0, 0)], [(2, 0, 1)]])


class IslandsTest(Case):
    def test_none(self):
        self.assertEqual(islands(Board(1, 1)), [])
        self.assertEqual(islands(read_picture("board 2 1 2\noo\noo\n")), [])

    def test_by_hand(self):
        board = read_picture("board 4 3 2\n##.#\n..O.\n#..#\n....\n.#O.\n....\n")
        found = islands(board)
        self.assertEqual(found, [[(0, 0, 0), (1, 0, 0)], [(0, 2, 0)], [(1, 1, 1), (2, 1, 0), (2, 1, 1)],
                                 [(3, 0, 0)], [(3, 2, 0)]])
        for island in found:
            for cell in island:
                self.assertEqual(island_of(board, cell), island)

    def test_by_least_cells_not_by_rows_or_sizes(self):
        board = read_picture("board 3 3 1\n.##\n..#\n#..\n")
        self.assertEqual(islands(board), [[(0, 2, 0)], [(1, 0, 0), (2, 0, 0), (2, 1, 0)]])

    def test_an_island_whose_least_cell_is_come_to_late(self):
        board = read_picture("board 5 2 1\n#.###\n###.#\n")
        self.assertEqual(islands(board), [board.cells()])
        self.assertEqual(island_of(board, (4, 1, 0)), board.cells())

    def test_all_small_boards(self):
        for board in small_boards():
            self.check(board)

    def test_larger_boards(self):
        for board in large_boards():
            self.check(board)

    def test_full_and_winding_boards(self):
        board = Board(12, 12, 3)
        for z in range(3):
            board.lay(Block(0, 0, 12, 12), z)
        self.assertEqual([len(island) for island in islands(board)], [144, 144, 144])
        board.drill(5, 5)
        self.assertEqual(islands(board), [board.cells()])
        snake = "############\n...........#\n############\n#...........\n" * 3
        board = read_picture("board 12 12 1\n" + snake)
        self.check(board)
        self.assertEqual(len(walk(board, (0, 0, 0), (0, 11, 0))), 6 * 12 + 6)

    def test_lists_told_are_new_ones(self):
        board = read_picture("board 3 1 1\n##.\n")
        asks = [lambda: islands(board), lambda: islands(board)[0], lambda: island_of(board, (0, 0, 0)),
                lambda: near(board, (0, 0, 0)), lambda: walk(board, (0, 0, 0), (1, 0, 0))]
        for ask in asks:
            kept = list(ask())
            ask().append((2, 0, 0))
            ask().clear()
            self.assertEqual(ask(), kept)
            self.assertIs(type(ask()), list)
        self.assertEqual(picture(board), "board 3 1 1\n##.\n")


class WalkTest(Case):
    def test_to_itself(self):
        for board in [read_picture("board 1 1 1\n#\n"), read_picture("board 2 2 2\nO#\n##\nO#\n##\n")]:
            for cell in board.cells():
                self.assertEqual(walk(board, cell, cell), [cell])

    def test_to_a_neighbour(self):
        board = read_picture("board 2 1 1\n##\n")
        self.assertEqual(walk(board, (0, 0, 0), (1, 0, 0)), [(0, 0, 0), (1, 0, 0)])
        self.assertEqual(walk(board, (1, 0, 0), (0, 0, 0)), [(1, 0, 0), (0, 0, 0)])

    def test_none_between_two_islands(self):
        board = read_picture("board 3 2 2\n#.#\n.#.\n###\n...\n")
        self.assertIsNone(walk(board, (0, 0, 0), (2, 0, 0)))
        self.assertIsNone(walk(board, (0, 0, 0), (1, 1, 0)))
        self.assertIsNone(walk(board, (0, 0, 0), (0, 0, 1)))

    def test_the_short_way_of_two(self):
        ring = read_picture("board 4 4 1\n####\n#..#\n#..#\n####\n")
        self.assertEqual(walk(ring, (0, 1, 0), (1, 0, 0)), [(0, 1, 0), (0, 0, 0), (1, 0, 0)])
        self.assertEqual(walk(ring, (1, 3, 0), (0, 2, 0)), [(1, 3, 0), (0, 3, 0), (0, 2, 0)])

    def test_a_short_cut_through_another_layer(self):
        board = read_picture("board 5 3 2\nO...O\n#...#\n#####\nO###O\n.....\n.....\n")
        self.assertEqual(walk(board, (0, 0, 0), (4, 0, 0)),
                         [(0, 0, 0), (0, 0, 1), (1, 0, 1), (2, 0, 1), (3, 0, 1), (4, 0, 1), (4, 0, 0)])

    def test_asked_again_behind_changes(self):
        board = Board(4, 2, 2)
        board.put([(0, 0, 0), (2, 0, 0)])
        ends = ((0, 0, 0), (2, 0, 0))
        self.assertIsNone(walk(board, *ends))
        self.assertEqual(islands(board), [[(0, 0, 0)], [(2, 0, 0)]])
        board.put([(1, 0, 0)])
        self.assertEqual(walk(board, *ends), [(0, 0, 0), (1, 0, 0), (2, 0, 0)])
        self.assertEqual(islands(board), [[(0, 0, 0), (1, 0, 0), (2, 0, 0)]])
        board.take([(1, 0, 0)])
        self.assertIsNone(walk(board, *ends))
        self.assertEqual(near(board, (0, 0, 0)), [])
        board.put([(0, 0, 1), (1, 0, 1), (2, 0, 1)])
        board.drill(0, 0)
        self.assertIsNone(walk(board, *ends))
        board.drill(2, 0)
        self.assertEqual(walk(board, *ends), [(0, 0, 0), (0, 0, 1), (1, 0, 1), (2, 0, 1), (2, 0, 0)])
        self.assertEqual(island_of(board, (2, 0, 0)), board.cells())
        board.plug(0, 0)
        self.assertIsNone(walk(board, *ends))
        self.assertEqual(island_of(board, (0, 0, 0)), [(0, 0, 0)])
        self.check(board)

    def test_a_walk_just_where_cells_are_joined(self):
        for board in large_boards():
            cells = board.cells()
            for one in cells[::7]:
                island = island_of(board, one)
                for other in cells[::5]:
                    self.assertEqual(walk(board, one, other) is not None, other in island)
                    self.assertEqual(walk(board, other, one) is not None, other in island)


class RefusedTest(Case):
    def refused(self, board, cell):
        good = board.cells()[0]
        text = picture(board)
        for ask in [lambda: near(board, cell), lambda: island_of(board, cell), lambda: walk(board, cell, good),
                    lambda: walk(board, good, cell), lambda: walk(board, cell, cell)]:
            with self.subTest(repr(cell)), self.assertRaises(NoCopper):
                ask()
        self.assertEqual(picture(board), text)

    def test_cells_without_copper(self):
        for text in ["board 3 2 2\n#.O\no##\n#.o\nO..\n", "board 2 1 1\n#.\n", "board 1 2 3\n#\no\n.\nO\n.\no\n"]:
            board = read_picture(text)
            for cell in all_cells(board.wide, board.high, board.layers):
                if not board.is_copper(*cell):
                    self.refused(board, cell)

    def test_cells_beyond_the_board(self):
        far = 10 ** 40
        for wide, high, layers in [(1, 1, 1), (3, 2, 2), (12, 12, 3)]:
            board = Board(wide, high, layers)
            for z in range(layers):
                board.lay(Block(0, 0, wide, high), z)
            for cell in [(-1, 0, 0), (wide, 0, 0), (0, -1, 0), (0, high, 0), (0, 0, -1), (0, 0, layers), (far, 0, 0),
                         (0, -far, 0), (0, 0, far), (-1, -1, -1), (wide, high, layers)]:
                self.refused(board, cell)

    def test_what_is_no_cell(self):
        board = read_picture("board 2 2 2\nOO\nOO\nOO\nOO\n")
        for cell in [(True, 0, 0), (0, False, 0), (0, 0, True), (0, 0), (0, 0, 0, 0), (), None, 0, (None, 0, 0)]:
            self.refused(board, cell)

    def test_an_empty_board(self):
        board = Board(2, 2)
        for ask in [lambda: near(board, (0, 0, 0)), lambda: island_of(board, (1, 1, 0)),
                    lambda: walk(board, (0, 0, 0), (0, 0, 0))]:
            with self.assertRaises(NoCopper):
                ask()

    def test_copper_taken_away(self):
        board = read_picture("board 2 1 1\n##\n")
        self.assertEqual(near(board, (1, 0, 0)), [(0, 0, 0)])
        board.take([(1, 0, 0)])
        self.refused(board, (1, 0, 0))


class InterfaceTest(unittest.TestCase):
    def test_arguments(self):
        for ask, row in [(near, "(board, cell)"), (islands, "(board)"), (island_of, "(board, cell)"),
                         (walk, "(board, one, other)")]:
            self.assertEqual(str(inspect.signature(ask)), row)


if __name__ == "__main__":
    unittest.main()
