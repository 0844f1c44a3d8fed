"""[29] to [32], and [2] and [4] as far as they speak of laying nets."""

import collections
import copy
import inspect
import itertools
import random
import unittest

from copperbook.against import against
from copperbook.boards import Board
from copperbook.breaks import breaks
from copperbook.drawings import Drawing
from copperbook.errors import NoDrawing, NoLay, NoPin, NoRules
from copperbook.islands import island_of, islands
from copperbook.laying import lay_all
from copperbook.pictures import picture, read_picture
from copperbook.rules import Rules
from samples import all_cells, drawn, numbers_by_words, some_board, some_drawing, step_price, told

PLAIN = Rules(0, 1, 0, [])


def drawing_of(nets):
    """The drawing of nets (name, how many pins), each with a part of its own of that name."""
    return Drawing([(name, "k", many) for name, many in nets],
                   [(name, [(name, pin) for pin in range(many)]) for name, many in nets])


def placed(nets):
    """A drawing and places of it, by a dict from each net's name to the cells of its pins."""
    return (drawing_of([(name, len(cells)) for name, cells in nets.items()]),
            {(name, pin): cell for name, cells in nets.items() for pin, cell in enumerate(cells)})


def field_by_words(board, rules, spots):
    """The functions price and through of the field of a net with pins at these spots, and its islands."""
    own = [island for island in islands(board) if set(island) & set(spots)]
    ours = set(itertools.chain(*own))
    foreign = set(board.cells()) - ours

    def price(cell):
        if cell in ours:
            return 1
        x, y, z = cell
        if board.is_copper(x, y, z):
            return None
        if any(a <= x < a + wide and b <= y < b + high and z == layer for a, b, wide, high, layer in rules.keeps):
            return None
        for a, b, layer in foreign:
            if layer == z and max(abs(a - x), abs(b - y)) <= rules.gap:
                return None
            if layer == z and abs(a - x) + abs(b - y) == 1:
                return None
            if layer != z and (a, b) == (x, y) and board.has_hole(x, y):
                return None
        return 1

    def through(x, y):
        if board.has_hole(x, y):
            return 1
        return None if any((x, y, z) in foreign for z in range(board.layers)) else 3

    return price, through, own


def laid_holes(cells):
    return {one[:2] for one, other in zip(cells, cells[1:]) if one[2] != other[2]}


def scene(seed, size, share, many):
    """A board, a drawing and places without a bare pin and without a short; None where there are too few islands."""
    chance = random.Random(seed)
    board = some_board(size, seed, share)
    lands = islands(board)
    drawing = some_drawing(seed, 3, many)
    if len(lands) < len(drawing.nets):
        return None
    chance.shuffle(lands)
    places = {}
    for number, (_, pins) in enumerate(drawing.nets):
        share = lands[number::len(drawing.nets)][:chance.randint(1, 4)]
        for pin in pins:
            places[pin] = chance.choice(chance.choice(share))
    return board, drawing, places


class Case(unittest.TestCase):
    def check(self, board, rules, drawing, places, *order):
        """What is told, held against the document's words, and what was handed in, held against itself."""
        handed = (told(board), rules.told(), list(rules.keeps), drawn(drawing), places, order)
        before = copy.deepcopy(handed)
        found = lay_all(board, rules, drawing, places, *order)
        self.assertEqual((told(board), rules.told(), list(rules.keeps), drawn(drawing), places, order), before)
        self.assertIs(type(found), tuple)
        names = order[0] if order and order[0] is not None else [name for name, _ in drawing.nets]
        ways = found[2]
        self.assertIs(type(ways), list)
        trial, rest = board.copy(), list(ways)
        for name in names:
            shut = self.check_net(trial, rules, name, sorted(dict(drawing.nets)[name]), places, rest)
            if shut is not None:
                self.assertEqual(found, ("shut", name, ways, shut))
                self.assertEqual(rest, [])
                return found
        self.assertEqual(rest, [])
        self.assertEqual((found[0], len(found)), ("laid", 3))
        self.assertEqual(told(found[1]), told(trial))
        self.check_laid(board, rules, drawing, places, found)
        return found

    def check_net(self, trial, rules, name, pins, places, rest):
        """Takes the ways of one net from the rest and puts them on the trial; tells the numbers where it is shut."""
        spots = [places[pin] for pin in pins]
        while len({tuple(island_of(trial, spot)) for spot in spots}) > 1:
            price, through, own = field_by_words(trial, rules, spots)
            starts = island_of(trial, spots[0])
            goals = [cell for island in own if island != starts for cell in island]
            numbers = numbers_by_words((trial.wide, trial.high, trial.layers), price, through, starts)
            if not set(goals) & set(numbers):
                return numbers
            title, cells = rest.pop(0)
            self.assertEqual((title, type(cells)), (name, list))
            self.assertIn(cells[0], starts)
            self.assertIn(cells[-1], goals)
            self.assertEqual(numbers[cells[-1]], min(numbers[goal] for goal in goals if goal in numbers))
            prices = {cell: price(cell) for cell in cells}
            for one, other in zip(cells, cells[1:]):
                self.assertEqual(numbers[other] - numbers[one], step_price(prices, through, one, other))
            trial.put(cells)
            for x, y in laid_holes(cells):
                trial.drill(x, y)
        return None

    def check_laid(self, board, rules, drawing, places, found):
        laid = found[1]
        self.assertIsNot(laid, board)
        self.assertEqual(against(laid, drawing, places), [])
        lands = {name: {tuple(island_of(laid, places[pin])) for pin in pins} for name, pins in drawing.nets}
        self.assertEqual({len(island) for island in lands.values()}, {1} if lands else set())
        self.assertEqual(len(set().union(*lands.values())), len(lands))
        self.assertLessEqual(set(breaks(laid, rules)), set(breaks(board, rules)))
        self.assertLessEqual(set(board.cells()), set(laid.cells()))
        self.assertLessEqual(set(board.holes()), set(laid.holes()))
        self.assertEqual(set(laid.cells()), set(board.cells()).union(*[cells for _, cells in found[2]]))
        self.assertEqual(set(laid.holes()), set(board.holes()).union(*[laid_holes(cells) for _, cells in found[2]]))

    def lay(self, text, rules, nets, *order):
        """What is told of a picture and a dict from nets to the cells of their pins."""
        return self.check(read_picture(text), rules, *placed(nets), *order)

    def laid(self, text, rules, nets, *order):
        """The picture of the laid board."""
        found = self.lay(text, rules, nets, *order)
        self.assertEqual(found[0], "laid")
        return picture(found[1])


class PlainTest(Case):
    def test_one_way(self):
        cells = all_cells(5, 1, 1)
        found = self.lay("board 5 1 1\n#...#\n", PLAIN, {"n": [cells[0], cells[4]]})
        self.assertEqual(picture(found[1]), "board 5 1 1\n#####\n")
        self.assertEqual(found[2], [("n", cells)])

    def test_from_the_island_of_the_least_pin(self):
        cells = all_cells(3, 1, 1)
        self.assertEqual(self.lay("board 3 1 1\n#.#\n", PLAIN, {"n": [cells[2], cells[0]]})[2], [("n", cells[::-1])])
        drawing = Drawing([("b", "k", 1), ("a", "k", 2)], [("n", [("b", 0), ("a", 1), ("a", 0)])])
        places = {("b", 0): (0, 0, 0), ("a", 1): (2, 0, 0), ("a", 0): (4, 0, 0)}
        found = self.check(read_picture("board 5 1 1\n#.#.#\n"), PLAIN, drawing, places)
        self.assertEqual(found[2], [("n", [(4, 0, 0), (3, 0, 0), (2, 0, 0)]), ("n", [(2, 0, 0), (1, 0, 0), (0, 0, 0)])])

    def test_from_all_cells_of_the_island(self):
        found = self.lay("board 7 1 1\n###.###\n", PLAIN, {"n": [(0, 0, 0), (6, 0, 0)]})
        self.assertEqual(found[2], [("n", [(2, 0, 0), (3, 0, 0), (4, 0, 0)])])

    def test_no_nets(self):
        for order in [(), (None,), ([],)]:
            board = some_board((4, 4, 2), 3)
            found = self.check(board, PLAIN, Drawing([], []), {}, *order)
            self.assertEqual(found[2], [])
            self.assertTrue(found[1].same_as(board))

    def test_one_pin(self):
        found = self.lay("board 3 1 1\n#.#\n", PLAIN, {"n": [(0, 0, 0)], "m": [(2, 0, 0)]})
        self.assertEqual((picture(found[1]), found[2]), ("board 3 1 1\n#.#\n", []))

    def test_on_one_island_already(self):
        found = self.lay("board 3 2 1\n###\n..#\n", PLAIN, {"n": [(0, 0, 0), (2, 1, 0), (0, 0, 0)]})
        self.assertEqual((picture(found[1]), found[2]), ("board 3 2 1\n###\n..#\n", []))
        found = self.lay("board 2 1 2\nO.\nO#\n", PLAIN, {"n": [(0, 0, 0), (1, 0, 1)]})
        self.assertEqual(found[2], [])

    def test_several_ways(self):
        nets = {"n": [(0, 0, 0), (2, 0, 0), (4, 0, 0), (6, 0, 0)]}
        found = self.lay("board 7 1 1\n#.#.#.#\n", PLAIN, nets)
        self.assertEqual(found[2], [("n", [(at, 0, 0), (at + 1, 0, 0), (at + 2, 0, 0)]) for at in [0, 2, 4]])
        self.assertEqual(len(self.lay("board 5 5 1\n#...#\n.....\n.....\n.....\n#...#\n", PLAIN,
                                      {"n": [(0, 0, 0), (4, 0, 0), (0, 4, 0), (4, 4, 0)]})[2]), 3)

    def test_nets_one_behind_the_other(self):
        text = "board 3 3 1\n#.#\n...\n#.#\n"
        found = self.lay(text, PLAIN, {"n": [(0, 0, 0), (2, 0, 0)], "m": [(0, 2, 0), (2, 2, 0)]})
        self.assertEqual([name for name, _ in found[2]], ["n", "m"])
        self.assertEqual(picture(found[1]), "board 3 3 1\n###\n...\n###\n")

    def test_a_net_may_go_over_copper_of_its_own(self):
        # By rising pins the way goes over the island in the middle first, which is nearer.
        found = self.lay("board 7 1 1\n#.###.#\n", PLAIN, {"n": [(0, 0, 0), (6, 0, 0), (3, 0, 0)]})
        self.assertEqual(found[2], [("n", [(0, 0, 0), (1, 0, 0), (2, 0, 0)]), ("n", [(4, 0, 0), (5, 0, 0), (6, 0, 0)])])

    def test_pins_at_one_cell(self):
        found = self.lay("board 3 1 1\n#.#\n", PLAIN, {"n": [(0, 0, 0), (0, 0, 0), (2, 0, 0), (2, 0, 0)]})
        self.assertEqual(len(found[2]), 1)


class ForeignTest(Case):
    WALL = "board 5 3 1\n..#..\n#.#.#\n.....\n"

    def test_around_foreign_copper(self):
        nets = {"n": [(0, 1, 0), (4, 1, 0)], "m": [(2, 0, 0)]}
        # The lowest row lies beside the wall's lower end, which is one step from it.
        self.assertEqual(self.lay(self.WALL, PLAIN, nets)[0], "shut")
        text = "board 5 4 1\n..#..\n#.#.#\n.....\n.....\n"
        found = self.lay(text, PLAIN, nets)
        self.assertEqual((found[0], len(found[2][0][1])), ("laid", 9))
        self.assertEqual([y for x, y, _ in found[2][0][1] if x == 2], [3])

    def test_copper_without_a_pin_is_foreign(self):
        self.assertEqual(self.lay(self.WALL, PLAIN, {"n": [(0, 1, 0), (4, 1, 0)]})[0], "shut")
        self.assertEqual(self.lay("board 3 1 1\n###\n", PLAIN, {"n": [(0, 0, 0), (2, 0, 0)]})[2], [])
        self.assertEqual(self.lay("board 5 1 1\n#.#.#\n", PLAIN, {"n": [(0, 0, 0), (4, 0, 0)]}),
                         ("shut", "n", [], {(0, 0, 0): 0}))

    def test_gaps(self):
        # Foreign copper in the middle of the upper row; each gap more sends the way a row farther down.
        text = "board 7 5 1\n...#...\n#.....#\n.......\n.......\n.......\n"
        nets = {"n": [(0, 1, 0), (6, 1, 0)], "m": [(3, 0, 0)]}
        for gap, row, total in [(0, 2, 9), (1, 2, 9), (2, 3, 11)]:
            found = self.lay(text, Rules(gap, 1, 0, []), nets)
            self.assertEqual((found[0], len(found[2][0][1])), ("laid", total), gap)
            self.assertEqual([y for x, y, _ in found[2][0][1] if x == 3], [row])

    def test_corner_by_corner(self):
        # Where the upper right corner is kept, the way goes corner by corner by the foreign copper.
        text, nets = "board 3 3 1\n#..\n...\n#.#\n", {"n": [(0, 0, 0), (2, 2, 0)]}
        for keeps, words in [([(2, 0, 1, 1, 0)], ["laid", "shut", "shut"]), ([], ["laid", "laid", "shut"])]:
            self.assertEqual([self.lay(text, Rules(gap, 1, 0, keeps), nets)[0] for gap in range(3)], words)

    def test_not_side_by_side_by_any_gap(self):
        text, nets = "board 4 2 1\n#..#\n.#..\n", {"n": [(0, 0, 0), (3, 0, 0)]}
        for gap in range(3):
            self.assertEqual(self.lay(text, Rules(gap, 1, 0, []), nets)[0], "shut")

    def test_a_gap_counts_in_its_layer_alone(self):
        text = "board 4 1 2\n#..#\n.##.\n"
        self.assertEqual(self.laid(text, Rules(2, 1, 0, []), {"n": [(0, 0, 0), (3, 0, 0)]}), "board 4 1 2\n####\n.##.\n")

    def test_copper_of_its_own_is_open_near_foreign_copper(self):
        # The middle island lies within the gap of foreign copper, and breaks the rules ahead as behind.
        rules = Rules(2, 1, 0, [])
        nets = {"n": [(0, 0, 0), (8, 0, 0), (4, 0, 0)]}
        board = read_picture("board 9 3 1\n#.#####.#\n.........\n....#....\n")
        found = self.check(board, rules, *placed(nets))
        self.assertEqual(found[0], "laid")
        self.assertEqual(breaks(found[1], rules), [row for row in breaks(board, rules) if (4, 2, 0) in row])
        self.assertEqual(len(breaks(found[1], rules)), 5)
        # Less long, its ends lie within the gap, so that nothing can be laid beside them.
        board = read_picture("board 7 3 1\n#.###.#\n.......\n...#...\n")
        nets = {"n": [(0, 0, 0), (6, 0, 0), (3, 0, 0)]}
        self.assertEqual(self.check(board, rules, *placed(nets))[0], "shut")

    def test_what_is_laid_is_foreign_to_the_next(self):
        text = "board 3 3 1\n.#.\n#.#\n.#.\n"
        across, down = [(0, 1, 0), (2, 1, 0)], [(1, 0, 0), (1, 2, 0)]
        # The middle is beside both nets' copper, so neither can be laid.
        self.assertEqual(self.lay(text, PLAIN, {"n": across, "m": down})[0], "shut")
        text = "board 5 5 1\n..#..\n.....\n#...#\n.....\n..#..\n"
        across, down = [(0, 2, 0), (4, 2, 0)], [(2, 0, 0), (2, 4, 0)]
        found = self.lay(text, PLAIN, {"n": across, "m": down})
        self.assertEqual((found[0], found[1], len(found[2])), ("shut", "m", 1))
        self.assertNotIn((2, 2, 0), found[3])


class KeepTest(Case):
    def test_around_a_keep(self):
        text, nets = "board 3 2 1\n#.#\n...\n", {"n": [(0, 0, 0), (2, 0, 0)]}
        self.assertEqual(self.laid(text, PLAIN, nets), "board 3 2 1\n###\n...\n")
        self.assertEqual(self.laid(text, Rules(0, 1, 0, [(1, 0, 1, 1, 0)]), nets), "board 3 2 1\n#.#\n###\n")
        self.assertEqual(self.laid(text, Rules(2, 1, 0, [(1, 0, 1, 1, 0)]), nets), "board 3 2 1\n#.#\n###\n")
        self.assertEqual(self.lay(text, Rules(0, 1, 0, [(1, 0, 1, 2, 0)]), nets),
                         ("shut", "n", [], {(0, 0, 0): 0, (0, 1, 0): 1}))
        self.assertEqual(self.laid(text, Rules(0, 1, 0, [(1, 0, 1, 2, 1)]), nets), "board 3 2 1\n###\n...\n")

    def test_several_keeps(self):
        text, nets = "board 5 3 1\n.....\n#...#\n.....\n", {"n": [(0, 1, 0), (4, 1, 0)]}
        found = self.laid(text, Rules(0, 1, 0, [(1, 1, 1, 2, 0), (3, 0, 1, 2, 0)]), nets)
        self.assertEqual(found, "board 5 3 1\n###..\n#.#.#\n..###\n")
        self.assertEqual(self.lay(text, Rules(0, 1, 0, [(1, 1, 1, 2, 0), (1, 0, 1, 1, 0)]), nets)[0], "shut")

    def test_copper_of_its_own_is_open_in_a_keep(self):
        text, nets = "board 7 1 1\n#.###.#\n", {"n": [(0, 0, 0), (6, 0, 0), (3, 0, 0)]}
        rules = Rules(0, 1, 0, [(2, 0, 3, 1, 0)])
        self.assertEqual(self.laid(text, rules, nets), "board 7 1 1\n#######\n")
        self.assertEqual(self.laid(text, Rules(0, 1, 0, [(0, 0, 1, 1, 0), (6, 0, 10 ** 39, 1, 0)]), nets),
                         "board 7 1 1\n#######\n")


class HoleTest(Case):
    def test_a_new_hole(self):
        found = self.lay("board 1 1 2\n#\n#\n", PLAIN, {"n": [(0, 0, 0), (0, 0, 1)]})
        self.assertEqual((picture(found[1]), found[2]), ("board 1 1 2\nO\nO\n", [("n", [(0, 0, 0), (0, 0, 1)])]))
        self.assertEqual(self.laid("board 1 1 3\n#\n.\n#\n", PLAIN, {"n": [(0, 0, 0), (0, 0, 2)]}),
                         "board 1 1 3\nO\no\nO\n")

    def test_none_where_foreign_copper_lies_in_any_layer(self):
        nets = {"n": [(0, 0, 0), (0, 0, 2)]}
        self.assertEqual(self.lay("board 1 1 3\n#\n#\n#\n", PLAIN, nets), ("shut", "n", [], {(0, 0, 0): 0}))
        found = self.lay("board 2 1 3\n#.\n#.\n#.\n", PLAIN, nets)
        self.assertEqual(found[2], [("n", [(0, 0, 0), (1, 0, 0), (1, 0, 2), (0, 0, 2)])])
        self.assertEqual(picture(found[1]), "board 2 1 3\n#O\n#o\n#O\n")

    def test_none_through_one_layer_beyond_the_way(self):
        # The way would go from layer 0 to layer 1, but the hole would go through the foreign copper in layer 2 too.
        self.assertEqual(self.lay("board 1 1 3\n#\n#\n#\n", PLAIN, {"n": [(0, 0, 0), (0, 0, 1)]})[0], "shut")
        found = self.lay("board 2 1 3\n#.\n#.\n#.\n", PLAIN, {"n": [(0, 0, 0), (0, 0, 1)]})
        self.assertEqual(found[2], [("n", [(0, 0, 0), (1, 0, 0), (1, 0, 1), (0, 0, 1)])])

    def test_a_hole_that_stands(self):
        found = self.lay("board 3 1 2\n#o.\n.o#\n", PLAIN, {"n": [(0, 0, 0), (2, 0, 1)]})
        self.assertEqual(found[2], [("n", [(0, 0, 0), (1, 0, 0), (1, 0, 1), (2, 0, 1)])])
        self.assertEqual(picture(found[1]), "board 3 1 2\n#O.\n.O#\n")

    def test_one_that_stands_is_gone_through_for_1_and_a_new_one_for_3(self):
        # Straight down is 4 dear through a new hole; by a hole that stands so far off it is 2 and twice the steps.
        for far, many in [(1, None), (2, 2), (3, 2)]:
            rows = ["#" + "." * (far - 1) + "o" + "..."] * 2
            found = self.lay("\n".join([f"board {far + 4} 1 2"] + rows) + "\n", PLAIN, {"n": [(0, 0, 0), (0, 0, 1)]})
            if many is not None:
                self.assertEqual(len(found[2][0][1]), many)
        # From the left to the right and down: at any square for 4, at the one with a hole for 2.
        for at in range(5):
            rows = [row[:at] + {"#": "O", ".": "o"}[row[at]] + row[at + 1:] for row in ["#....", "....#"]]
            found = self.lay("\n".join(["board 5 1 2"] + rows) + "\n", PLAIN, {"n": [(0, 0, 0), (4, 0, 1)]})
            self.assertEqual(laid_holes(found[2][0][1]), {(at, 0)})
            self.assertEqual(found[1].holes(), [(at, 0)])

    def test_a_way_by_a_hole_or_around(self):
        # A keep in layer 0 between the pins: under it for 2 and 2 new holes, or around it.
        nets = {"n": [(0, 0, 0), (2, 0, 0)]}
        for high, holes in [(2, 0), (4, 0), (5, None), (6, 2), (12, 2)]:
            text = f"board 3 {high} 2\n#.#\n" + "...\n" * (2 * high - 1)
            found = self.lay(text, Rules(0, 1, 0, [(1, 0, 1, high - 1, 0)]), nets)
            if holes is not None:
                self.assertEqual(len(found[1].holes()), holes, high)

    def test_not_to_a_cell_that_foreign_copper_would_be_joined_to(self):
        nets = {"n": [(0, 0, 0), (2, 0, 0)]}
        self.assertEqual(self.lay("board 3 1 2\n#o#\n.O.\n", PLAIN, nets)[0], "shut")
        self.assertEqual(self.lay("board 3 1 3\n#o#\n.o.\n.O.\n", PLAIN, nets)[0], "shut")
        self.assertEqual(self.laid("board 3 1 2\n#.#\n.#.\n", PLAIN, nets), "board 3 1 2\n###\n.#.\n")
        self.assertEqual(self.laid("board 3 2 2\n#o#\n...\n.O.\n...\n", PLAIN, nets),
                         "board 3 2 2\n#o#\n###\n.O.\n...\n")
        self.assertEqual(self.laid("board 3 1 2\n#o#\n.o.\n", PLAIN, nets), "board 3 1 2\n#O#\n.o.\n")

    def test_own_copper_under_a_hole(self):
        # The cell over own copper at a hole is open, and so joins it.
        nets = {"n": [(0, 0, 0), (1, 0, 1)]}
        found = self.lay("board 2 1 2\n#o\n.O\n", PLAIN, nets)
        self.assertEqual(found[2], [("n", [(0, 0, 0), (1, 0, 0), (1, 0, 1)])])

    def test_a_new_hole_is_there_for_the_next_way_and_net(self):
        # The net's second way comes to the hole of its first one; to the other net its copper is foreign there.
        text = "board 5 1 2\n#...#\n....#\n"
        found = self.lay(text, PLAIN, {"n": [(0, 0, 0), (4, 0, 0), (4, 0, 1)]})
        self.assertEqual(len(found[2]), 2)
        found = self.lay("board 3 3 2\n#..\n.#.\n...\n...\n...\n..#\n", PLAIN, {"n": [(0, 0, 0), (2, 2, 1)], "m": [(1, 1, 0)]})
        self.assertEqual(found[0], "laid")

    def test_holes_only_where_a_way_changes_the_layer(self):
        # The way goes under itself, and there is no hole where it does.
        for seed in range(30):
            board = Board(4, 4, 2)
            board.put([(0, 0, 0), (3, 3, 1), (3, 0, 0)])
            chance = random.Random(seed)
            keeps = [(x, y, 1, 1, z) for x, y, z in chance.sample(all_cells(4, 4, 2), 8)]
            self.check(board, Rules(0, 1, 0, keeps), *placed({"n": [(0, 0, 0), (3, 3, 1), (3, 0, 0)]}))


class OrderTest(Case):
    def test_left_out(self):
        nets = {"z": [(0, 0, 0), (2, 0, 0)], "a": [(0, 2, 0), (2, 2, 0)]}
        text = "board 3 3 1\n#.#\n...\n#.#\n"
        for order in [(), (None,)]:
            self.assertEqual([name for name, _ in self.lay(text, PLAIN, nets, *order)[2]], ["z", "a"])

    def test_told(self):
        nets = {"z": [(0, 0, 0), (2, 0, 0)], "a": [(0, 2, 0), (2, 2, 0)], "m": [(0, 4, 0), (2, 4, 0)]}
        text = "board 3 5 1\n#.#\n...\n#.#\n...\n#.#\n"
        for order in itertools.permutations(nets):
            self.assertEqual([name for name, _ in self.lay(text, PLAIN, nets, list(order))[2]], list(order))

    def test_the_one_ahead_may_shut_the_next(self):
        text = "board 5 5 1\n..#..\n.....\n#...#\n.....\n..#..\n"
        nets = {"n": [(0, 2, 0), (4, 2, 0)], "m": [(2, 0, 0), (2, 4, 0)]}
        self.assertEqual(self.lay(text, PLAIN, nets)[1], "m")
        self.assertEqual(self.lay(text, PLAIN, nets, ["m", "n"])[1], "n")

    def test_the_order_is_not_told_again(self):
        order = ["n"]
        found = self.lay("board 3 1 1\n#.#\n", PLAIN, {"n": [(0, 0, 0), (2, 0, 0)]}, order)
        order.clear()
        self.assertEqual(found[2], [("n", [(0, 0, 0), (1, 0, 0), (2, 0, 0)])])


class ShutTest(Case):
    def test_at_once(self):
        found = self.lay("board 3 1 1\n#.#\n", Rules(0, 1, 0, [(1, 0, 1, 1, 0)]), {"n": [(0, 0, 0), (2, 0, 0)]})
        self.assertEqual(found, ("shut", "n", [], {(0, 0, 0): 0}))

    def test_ways_ahead_and_of_this_net(self):
        text = "board 7 3 1\n#.#.#.#\n.......\n#.#...#\n"
        nets = {"m": [(0, 2, 0), (2, 2, 0)], "n": [(0, 0, 0), (2, 0, 0), (4, 0, 0), (6, 0, 0)], "o": [(6, 2, 0)]}
        rules = Rules(0, 1, 0, [(5, 0, 1, 3, 0)])
        found = self.lay(text, rules, nets)
        self.assertEqual(found[:2], ("shut", "n"))
        self.assertEqual(found[2], [("m", [(0, 2, 0), (1, 2, 0), (2, 2, 0)]), ("n", [(0, 0, 0), (1, 0, 0), (2, 0, 0)]),
                                    ("n", [(2, 0, 0), (3, 0, 0), (4, 0, 0)])])
        self.assertEqual({cell for cell, number in found[3].items() if number == 0}, {(x, 0, 0) for x in range(5)})
        self.assertEqual(found[3][3, 1, 0], 1)

    def test_nothing_is_laid_on_the_board_handed_in(self):
        board = read_picture("board 5 1 1\n#.#.#\n")
        drawing, places = placed({"n": [(0, 0, 0), (2, 0, 0), (4, 0, 0)]})
        found = self.check(board, Rules(0, 1, 0, [(3, 0, 1, 1, 0)]), drawing, places)
        self.assertEqual((found[0], len(found[2])), ("shut", 1))
        self.assertEqual(picture(board), "board 5 1 1\n#.#.#\n")

    def test_the_first_net_that_is_shut(self):
        text = "board 3 3 1\n#.#\n...\n#.#\n"
        nets = {"n": [(0, 0, 0), (2, 0, 0)], "m": [(0, 2, 0), (2, 2, 0)]}
        rules = Rules(0, 1, 0, [(1, 0, 1, 3, 0)])
        self.assertEqual(self.lay(text, rules, nets)[1], "n")
        self.assertEqual(self.lay(text, rules, nets, ["m", "n"])[1], "m")


class SceneTest(Case):
    def test_small_boards(self):
        met = collections.Counter()
        for seed in range(400):
            size = [(6, 5, 1), (5, 5, 2), (4, 4, 3), (7, 4, 1), (9, 1, 2)][seed % 5]
            given = scene(seed, size, [0.1, 0.2, 0.3][seed % 3], 4)
            if given is None:
                continue
            chance = random.Random(seed)
            gap = chance.choice([0, 0, 1, 2])
            keeps = [(chance.randint(0, 6), chance.randint(0, 4), 1, chance.randint(1, 3), chance.randint(0, 2))
                     for _ in range(chance.choice([0, 0, 1, 3]))]
            board, drawing, places = given
            order = [name for name, _ in drawing.nets]
            chance.shuffle(order)
            found = self.check(board, Rules(gap, 1, 0, keeps), drawing, places, *[[], [order]][seed % 2])
            met[found[0], gap, min(len(found[2]), 2)] += 1
        for word, gap, ways in itertools.product(["laid", "shut"], range(3), range(3)):
            if (word, gap) != ("laid", 2):
                self.assertIn((word, gap, ways), met)
        self.assertIn(("laid", 2, 1), met)

    def test_large_boards(self):
        words = collections.Counter()
        for seed in range(12):
            board, drawing, places = scene(seed, (12, 12, 1 + seed % 3), 0.06, 6)
            words[self.check(board, Rules(seed % 3, 1, 0, []), drawing, places)[0]] += 1
        self.assertEqual(sorted(words), ["laid", "shut"])

    def test_the_most_pins(self):
        cells = [(x, y, 0) for x in range(0, 12, 3) for y in range(0, 12, 3)]
        parts = [(f"p{number}", "k", 8) for number in range(8)]
        nets = [(f"n{number}", [(f"p{part}", pin) for part in range(8) for pin in range(8) if (part * 8 + pin) % 4 == number])
                for number in range(4)]
        places = {pin: cells[4 * number + at % 4] for number, (_, pins) in enumerate(nets) for at, pin in enumerate(pins)}
        board = Board(12, 12, 2)
        board.put(cells)
        self.assertEqual(self.check(board, Rules(1, 1, 0, []), Drawing(parts, nets), places)[0], "laid")

    def test_crossing_nets_on_two_layers(self):
        board = Board(7, 7, 2)
        nets = {"n": [(0, 3, 0), (6, 3, 0)], "m": [(3, 0, 0), (3, 6, 0)]}
        for cells in nets.values():
            board.put(cells)
        found = self.check(board, PLAIN, *placed(nets))
        self.assertEqual(found[0], "laid")
        self.assertEqual(len(found[1].holes()), 2)


class RefusedTest(unittest.TestCase):
    TEXT = "board 4 1 1\n#.#.\n"

    def setUp(self):
        self.drawing = Drawing([("a", "k", 2), ("b", "k", 1)], [("n", [("a", 0), ("a", 1)]), ("m", [("b", 0)])])
        self.places = {("a", 0): (0, 0, 0), ("a", 1): (0, 0, 0), ("b", 0): (2, 0, 0)}
        self.board = read_picture(self.TEXT)

    def refused(self, error, board, rules, drawing, places, *order):
        handed = lambda: (told(board), rules.told(), drawn(drawing), places, order)
        before = copy.deepcopy(handed())
        with self.subTest(before), self.assertRaises(error) as caught:
            lay_all(board, rules, drawing, places, *order)
        self.assertIs(type(caught.exception), error)
        self.assertEqual(handed(), before)

    def test_nothing_is_refused(self):
        for order in [(), (None,), (["n", "m"],), (["m", "n"],)]:
            self.assertEqual(lay_all(self.board, PLAIN, self.drawing, self.places, *order)[0], "laid")

    def test_an_order_that_is_none(self):
        for order in [[], ["n"], ["m"], ["n", "n"], ["n", "m", "n"], ["n", "m", "o"], ["n", "o"], ["o"], ["a", "b"], ["N", "m"],
                      ["n", None], [None, None], [0, 1], ["n", 0], [["n"], ["m"]], [("n",), ("m",)], ["nm"], ["n", ""],
                      [True, "n"], ("n", "m"), "nm", {"n": 1, "m": 2}, {"n", "m"}, 0, 1, True, False, (), "", {}]:
            self.refused(NoDrawing, self.board, PLAIN, self.drawing, self.places, order)
        empty = Drawing([], [])
        self.assertEqual(lay_all(self.board, PLAIN, empty, {}, [])[0], "laid")
        for order in [["n"], (), "", False, [None]]:
            self.refused(NoDrawing, self.board, PLAIN, empty, {}, order)

    def test_rules(self):
        for gap, width, rim in itertools.product(range(3), [1, 2, 3], [0, 1]):
            rules = Rules(gap, width, rim, [])
            if (width, rim) == (1, 0):
                self.assertEqual(lay_all(self.board, rules, self.drawing, self.places)[0], "laid")
            else:
                self.refused(NoRules, self.board, rules, self.drawing, self.places)

    def test_places(self):
        for pin in self.places:
            self.refused(NoPin, self.board, PLAIN, self.drawing, {key: self.places[key] for key in self.places if key != pin})
            for cell in [(4, 0, 0), (0, 1, 0), (0, 0, 1), (-1, 0, 0), None, (0, 0), (False, 0, 0)]:
                self.refused(NoPin, self.board, PLAIN, self.drawing, {**self.places, pin: cell})
        self.refused(NoPin, self.board, PLAIN, self.drawing, {})

    def test_other_things_in_the_places_are_passed_over(self):
        more = {**self.places, ("z", 0): (9, 9, 9), "n": None, ("a", 2): (1, 0, 0)}
        self.assertEqual(lay_all(self.board, PLAIN, self.drawing, more)[0], "laid")

    def test_a_bare_pin(self):
        for pin in self.places:
            self.refused(NoLay, self.board, PLAIN, self.drawing, {**self.places, pin: (1, 0, 0)})

    def test_pins_of_two_nets_on_one_island(self):
        self.refused(NoLay, self.board, PLAIN, self.drawing, {**self.places, ("b", 0): (0, 0, 0)})
        self.refused(NoLay, self.board, PLAIN, self.drawing, {**self.places, ("a", 1): (2, 0, 0)})
        self.refused(NoLay, read_picture("board 4 1 1\n####\n"), PLAIN, self.drawing, self.places)
        board = read_picture("board 1 1 2\nO\nO\n")
        places = {("a", 0): (0, 0, 0), ("a", 1): (0, 0, 0), ("b", 0): (0, 0, 1)}
        self.refused(NoLay, board, PLAIN, self.drawing, places)
        board.plug(0, 0)
        self.assertEqual(lay_all(board, PLAIN, self.drawing, places)[0], "laid")

    def test_open_pins_are_laid_and_not_refused(self):
        board = read_picture("board 5 1 1\n#.#.#\n")
        places = {("a", 0): (0, 0, 0), ("a", 1): (2, 0, 0), ("b", 0): (4, 0, 0)}
        self.assertEqual(lay_all(board, PLAIN, self.drawing, places)[0], "laid")

    def test_the_first_that_is_due(self):
        orders = [["m", "n"], ["n"]]
        rules = [PLAIN, Rules(0, 2, 0, []), Rules(0, 1, 1, [])]
        missing = {pin: cell for pin, cell in self.places.items() if pin != ("b", 0)}
        rows = [(self.places, None), ({**self.places, ("b", 0): (1, 0, 0)}, NoLay), ({**self.places, ("b", 0): (0, 0, 0)}, NoLay),
                (missing, NoPin), ({**missing, ("a", 0): (1, 0, 0)}, NoPin), ({**self.places, ("a", 0): (0, 0, 7)}, NoPin),
                ({**self.places, ("a", 0): (1, 0, 0), ("b", 0): (4, 0, 0)}, NoPin)]
        for order, rule, (places, error) in itertools.product(orders, rules, rows):
            if rule is not PLAIN:
                error = NoRules
            if order == ["n"]:
                error = NoDrawing
            if error is None:
                self.assertEqual(lay_all(self.board, rule, self.drawing, places, order)[0], "laid")
            else:
                self.refused(error, self.board, rule, self.drawing, places, order)


class AgainTest(Case):
    def test_what_is_told_and_changed(self):
        board = read_picture("board 5 1 1\n#.#.#\n")
        drawing, places = placed({"n": [(0, 0, 0), (2, 0, 0), (4, 0, 0)]})
        found = lay_all(board, PLAIN, drawing, places)
        found[1].take([(0, 0, 0)])
        found[1].drill(0, 0)
        found[2][0][1].clear()
        found[2].clear()
        self.assertEqual(picture(board), "board 5 1 1\n#.#.#\n")
        self.assertEqual(picture(lay_all(board, PLAIN, drawing, places)[1]), "board 5 1 1\n#####\n")
        shut = lay_all(board, Rules(0, 1, 0, [(3, 0, 1, 1, 0)]), drawing, places)
        same = copy.deepcopy(shut)
        shut[3].clear()
        shut[2][0][1].clear()
        self.assertEqual(lay_all(board, Rules(0, 1, 0, [(3, 0, 1, 1, 0)]), drawing, places), same)

    def test_a_board_with_nothing_to_lay_is_a_new_one_too(self):
        board = read_picture("board 2 1 1\n#.\n")
        found = lay_all(board, PLAIN, *placed({"n": [(0, 0, 0)]}))
        found[1].put([(1, 0, 0)])
        found[1].drill(0, 0)
        self.assertEqual(picture(board), "board 2 1 1\n#.\n")

    def test_what_is_handed_in_and_changed_later(self):
        board = read_picture("board 3 2 1\n#.#\n...\n")
        drawing, places = placed({"n": [(0, 0, 0), (2, 0, 0)]})
        keeps, order = [(1, 0, 1, 1, 0)], ["n"]
        rules = Rules(0, 1, 0, keeps)
        found = lay_all(board, rules, drawing, places, order)
        rows = "board 3 2 1\n#.#\n###\n"
        board.take([(0, 0, 0)])
        places.clear()
        order.clear()
        keeps.clear()
        self.assertEqual((picture(found[1]), [name for name, _ in found[2]]), (rows, ["n"]))
        board.put([(0, 0, 0)])
        places = placed({"n": [(0, 0, 0), (2, 0, 0)]})[1]
        for told_list in [rules.keeps, drawing.nets[0][1], drawing.nets, drawing.parts]:
            told_list.clear()
            self.assertEqual(picture(lay_all(board, rules, drawing, places)[1]), rows)

    def test_asked_again(self):
        given = [scene(seed, (6, 6, 2), 0.15, 3) for seed in range(8)]
        first = [lay_all(board, PLAIN, drawing, places) for board, drawing, places in given]
        for (board, drawing, places), found in reversed(list(zip(given, first))):
            again = lay_all(board.copy(), PLAIN, drawing, places)
            self.assertEqual((again[0], again[2:]), (found[0], found[2:]))

    def test_a_laid_board_laid_again(self):
        for seed in range(10):
            board, drawing, places = scene(seed, (7, 7, 2), 0.1, 3)
            found = lay_all(board, PLAIN, drawing, places)
            if found[0] == "laid":
                again = self.check(found[1], PLAIN, drawing, places)
                self.assertEqual(again[2], [])
                self.assertTrue(again[1].same_as(found[1]))


class InterfaceTest(unittest.TestCase):
    def test_arguments(self):
        self.assertEqual(str(inspect.signature(lay_all)), "(board, rules, drawing, places, order=None)")


if __name__ == "__main__":
    unittest.main()
