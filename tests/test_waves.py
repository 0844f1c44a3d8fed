"""[26], [27], and [2] and [4] as far as they speak of waves."""

import copy
import inspect
import itertools
import random
import unittest

from copperbook.waves import wave
from samples import all_cells, numbers_by_words, squares, step_price


def all_open(cell):
    return 1


def no_hole(x, y):
    return None


def any_hole(x, y):
    return 1


def some_field(size, seed, prices, holes):
    """Functions price and through of a field, of which some cells and squares have none."""
    chance = random.Random(seed)
    cells = {cell: chance.choice(prices) for cell in all_cells(*size)}
    rows = {square: chance.choice(holes) for square in squares(*size[:2])}
    # Asked beyond the size, both fail.
    return cells.__getitem__, lambda x, y: rows[x, y]


class Case(unittest.TestCase):
    def check(self, size, price, through, starts, goals):
        """What is told, held against the document's words, and the lists handed in, held against themselves."""
        before = copy.deepcopy((starts, goals))
        told = wave(size, price, through, starts, goals)
        self.assertEqual((starts, goals), before)
        self.assertIs(type(told), tuple)
        numbers = numbers_by_words(size, price, through, starts)
        self.assertIs(type(told[-1]), dict)
        self.assertEqual(told[-1], numbers)
        found = [numbers[goal] for goal in goals if goal in numbers]
        if not found:
            self.assertEqual((told[0], len(told)), ("shut", 2))
        else:
            self.assertEqual((told[0], len(told)), ("way", 4))
            self.assertEqual(told[2], min(found))
            self.check_way(told[1], told[2], numbers, price, through, starts, goals)
        return told

    def check_way(self, cells, total, numbers, price, through, starts, goals):
        self.assertIs(type(cells), list)
        self.assertIn(cells[0], starts)
        self.assertIn(cells[-1], goals)
        self.assertEqual([numbers[cells[0]], numbers[cells[-1]]], [0, total])
        prices = {cell: price(cell) for cell in cells}
        for one, other in zip(cells, cells[1:]):
            self.assertEqual(numbers[other] - numbers[one], step_price(prices, through, one, other))


class SmallTest(Case):
    def test_one_cell(self):
        cell = (0, 0, 0)
        self.assertEqual(self.check((1, 1, 1), all_open, no_hole, [cell], [cell]), ("way", [cell], 0, {cell: 0}))
        self.assertEqual(self.check((1, 1, 1), all_open, any_hole, [cell], []), ("shut", {cell: 0}))
        self.assertEqual(self.check((1, 1, 1), all_open, no_hole, [], [cell]), ("shut", {}))
        self.assertEqual(self.check((1, 1, 1), all_open, no_hole, [], []), ("shut", {}))
        self.assertEqual(self.check((1, 1, 1), lambda cell: None, no_hole, [cell], [cell]), ("shut", {}))

    def test_one_row(self):
        cells = all_cells(4, 1, 1)
        prices = dict(zip(cells, [7, 2, 1, 5]))
        self.assertEqual(self.check((4, 1, 1), prices.get, no_hole, cells[:1], cells[3:]),
                         ("way", cells, 8, dict(zip(cells, [0, 2, 3, 8]))))
        self.assertEqual(self.check((4, 1, 1), prices.get, no_hole, cells[3:], cells[:1]),
                         ("way", cells[::-1], 10, dict(zip(cells, [10, 3, 1, 0]))))

    def test_one_column(self):
        cells = all_cells(1, 4, 1)
        self.assertEqual(self.check((1, 4, 1), all_open, no_hole, cells[:1], cells[3:]),
                         ("way", cells, 3, dict(zip(cells, range(4)))))

    def test_a_shut_cell_between(self):
        cells = all_cells(3, 1, 1)
        prices = {cells[0]: 1, cells[2]: 1}
        self.assertEqual(self.check((3, 1, 1), prices.get, no_hole, cells[:1], cells[2:]), ("shut", {cells[0]: 0}))

    def test_not_corner_by_corner(self):
        prices = {(0, 0, 0): 1, (1, 1, 0): 1}
        self.assertEqual(self.check((2, 2, 1), prices.get, no_hole, [(0, 0, 0)], [(1, 1, 0)]), ("shut", {(0, 0, 0): 0}))

    def test_around_a_dear_cell(self):
        prices = dict.fromkeys(all_cells(3, 2, 1), 1)
        for dear, total in [(1, 2), (2, 3), (3, 4), (4, 4), (10 ** 40, 4)]:
            prices[1, 0, 0] = dear
            told = self.check((3, 2, 1), prices.get, no_hole, [(0, 0, 0)], [(2, 0, 0)])
            self.assertEqual(told[2], total)
        self.assertEqual(told[1], [(0, 0, 0), (0, 1, 0), (1, 1, 0), (2, 1, 0), (2, 0, 0)])
        self.assertEqual(told[3][1, 0, 0], 10 ** 40)


class LayerTest(Case):
    def test_through_a_hole(self):
        cells = all_cells(1, 1, 2)
        self.assertEqual(self.check((1, 1, 2), all_open, no_hole, cells[:1], cells[1:]), ("shut", {cells[0]: 0}))
        self.assertEqual(self.check((1, 1, 2), {cells[0]: 9, cells[1]: 2}.get, lambda x, y: 5, cells[:1], cells[1:]),
                         ("way", cells, 7, {cells[0]: 0, cells[1]: 7}))

    def test_to_any_other_layer(self):
        cells = all_cells(1, 1, 3)
        for one, other in itertools.permutations(cells, 2):
            self.assertEqual(self.check((1, 1, 3), all_open, lambda x, y: 3, [one], [other])[1:3], ([one, other], 4))
            prices = {one: 1, other: 1}
            self.assertEqual(self.check((1, 1, 3), prices.get, lambda x, y: 3, [one], [other])[1:3], ([one, other], 4))

    def test_the_hole_of_the_square_that_is_left(self):
        holes = {(0, 0): None, (1, 0): 3}
        told = self.check((2, 1, 2), all_open, lambda x, y: holes[x, y], [(0, 0, 0)], [(0, 0, 1)])
        self.assertEqual(told[1:3], ([(0, 0, 0), (1, 0, 0), (1, 0, 1), (0, 0, 1)], 6))

    def test_a_shut_cell_over_it(self):
        prices = {(0, 0, 0): 1, (0, 0, 2): 4}
        told = self.check((1, 1, 3), prices.get, any_hole, [(0, 0, 0)], [(0, 0, 1)])
        self.assertEqual(told, ("shut", {(0, 0, 0): 0, (0, 0, 2): 5}))

    def test_more_layers_than_a_board_has(self):
        told = self.check((1, 1, 6), all_open, lambda x, y: 2, [(0, 0, 1)], [(0, 0, 5)])
        self.assertEqual(told[1:3], ([(0, 0, 1), (0, 0, 5)], 3))


class StartsAndGoalsTest(Case):
    def test_shut_ones_count_for_nothing(self):
        cells = all_cells(4, 1, 1)
        prices = dict.fromkeys(cells[1:], 1)
        told = self.check((4, 1, 1), prices.get, no_hole, [cells[0], cells[3]], [cells[0], cells[1]])
        self.assertEqual(told, ("way", [cells[3], cells[2], cells[1]], 2, {cells[1]: 2, cells[2]: 1, cells[3]: 0}))
        self.assertEqual(self.check((4, 1, 1), prices.get, no_hole, cells[:1], cells[1:]), ("shut", {}))
        self.assertEqual(self.check((4, 1, 1), prices.get, no_hole, cells[3:], cells[:1]),
                         ("shut", dict(zip(cells[1:], [2, 1, 0]))))

    def test_twice_there(self):
        cells = all_cells(3, 1, 1)
        once = self.check((3, 1, 1), all_open, no_hole, cells[:1], cells[2:])
        self.assertEqual(self.check((3, 1, 1), all_open, no_hole, cells[:1] * 3, cells[2:] * 2), once)

    def test_the_same(self):
        cells = all_cells(3, 1, 1)
        told = self.check((3, 1, 1), all_open, no_hole, cells[1:], cells[:2])
        self.assertEqual(told, ("way", [cells[1]], 0, dict(zip(cells, [1, 0, 0]))))
        starts = [cells[0]]
        self.assertEqual(self.check((3, 1, 1), all_open, no_hole, starts, starts)[1:3], ([cells[0]], 0))

    def test_the_nearest_of_several(self):
        cells = all_cells(7, 1, 1)
        told = self.check((7, 1, 1), all_open, no_hole, [cells[0], cells[4]], [cells[6], cells[3]])
        self.assertEqual(told[1:3], ([cells[4], cells[3]], 1))

    def test_a_start_is_never_dear(self):
        cells = all_cells(2, 1, 1)
        told = self.check((2, 1, 1), lambda cell: 10 ** 50, no_hole, cells, cells)
        self.assertEqual((told[2], told[3]), (0, {cells[0]: 0, cells[1]: 0}))

    def test_any_order(self):
        price, through = some_field((5, 4, 2), 3, [None, 1, 2, 5], [None, 3])
        cells = all_cells(5, 4, 2)
        starts, goals = cells[:6], cells[20:30]
        first = self.check((5, 4, 2), price, through, starts, goals)
        for seed in range(5):
            chance = random.Random(seed)
            told = self.check((5, 4, 2), price, through, chance.sample(starts, 6), chance.sample(goals, 10))
            self.assertEqual((told[0], told[2:]), (first[0], first[2:]))


class FieldTest(Case):
    def test_many_fields(self):
        words = set()
        for seed in range(250):
            size = [(4, 3, 1), (1, 9, 2), (3, 3, 3), (6, 5, 2), (2, 2, 3)][seed % 5]
            prices = [[1], [None, 1], [None, 1, 2, 3], [1, 10 ** 60, 3 * 10 ** 60], [None, None, 1, 9]][seed // 5 % 5]
            holes = [[None, 1, 3], [None], [2, 10 ** 45], [1]][seed % 4]
            price, through = some_field(size, seed, prices, holes)
            chance = random.Random(seed)
            starts, goals = [chance.choices(all_cells(*size), k=chance.randint(0, 4)) for _ in "ab"]
            words.add(self.check(size, price, through, starts, goals)[0])
        self.assertEqual(words, {"way", "shut"})

    def test_a_field_as_large_as_a_board(self):
        for seed in range(2):
            price, through = some_field((12, 12, 3), seed, [None, 1, 1, 2, 3], [None, None, 3])
            cells = all_cells(12, 12, 3)
            self.check((12, 12, 3), price, through, cells[:9], cells[-9:])

    def test_a_larger_field(self):
        told = wave((60, 60, 2), all_open, lambda x, y: 3 if x == y == 59 else None, [(0, 0, 0)], [(0, 0, 1)])
        self.assertEqual((told[0], told[2], len(told[1]), len(told[3])), ("way", 240, 238, 7200))

    def test_a_vast_field_of_few_open_cells(self):
        cells = [(10 ** 40 + at, 10 ** 40, 0) for at in range(4)]
        told = wave((10 ** 41, 10 ** 41, 1), lambda cell: 1 if cell in cells else None, no_hole, cells[:1], cells[3:])
        self.assertEqual(told, ("way", cells, 3, dict(zip(cells, range(4)))))

    def test_prices_of_very_many_figures(self):
        large = 10 ** 5000
        cells = all_cells(3, 2, 1)
        prices = {cell: large + number for number, cell in enumerate(cells)}
        told = self.check((3, 2, 1), prices.get, no_hole, [(0, 0, 0)], [(2, 1, 0)])
        self.assertEqual(told[2], min(2 * large + 2 + 4, 2 * large + 1 + 3, 2 * large + 2 + 3) + large + 5)

    def test_every_field_of_two_prices(self):
        cells = all_cells(3, 2, 1)
        for prices in itertools.product([None, 1, 3], repeat=6):
            self.check((3, 2, 1), dict(zip(cells, prices)).get, no_hole, [(0, 0, 0)], [(2, 0, 0), (2, 1, 0)])
        cells = all_cells(2, 1, 2)
        for prices in itertools.product([None, 1, 2, 3], repeat=4):
            for holes in itertools.product([None, 1, 2], repeat=2):
                through = lambda x, y: holes[x]
                self.check((2, 1, 2), dict(zip(cells, prices)).get, through, [(0, 0, 0)], [(1, 0, 1)])

    def test_asked_of_the_size_alone(self):
        for size in [(1, 1, 1), (4, 3, 2), (1, 5, 3)]:
            asked, holes = set(), set()
            price = lambda cell: asked.add(cell) or 1
            through = lambda x, y: holes.add((x, y)) or 2
            wave(size, price, through, all_cells(*size)[:1], all_cells(*size)[-1:])
            self.assertLessEqual(asked, set(all_cells(*size)))
            self.assertLessEqual(holes, set(squares(*size[:2])))
            self.assertEqual({(type(cell), len(cell)) for cell in asked}, {(tuple, 3)})


class AgainTest(Case):
    def test_what_is_told_and_changed(self):
        cells = all_cells(3, 2, 2)
        ask = ((3, 2, 2), all_open, any_hole, cells[:2], cells[-2:])
        same, told = wave(*ask), wave(*ask)
        told[1].clear()
        told[3].clear()
        self.assertEqual(wave(*ask), same)
        told = wave((3, 2, 2), all_open, any_hole, cells[:2], [])
        told[1][0, 0, 0] = 9
        self.assertEqual(wave((3, 2, 2), all_open, any_hole, cells[:2], [])[1], same[3])

    def test_lists_changed_later(self):
        starts, goals = [(0, 0, 0)], [(1, 0, 0)]
        told = wave((2, 1, 1), all_open, no_hole, starts, goals)
        starts.clear()
        goals.clear()
        self.assertEqual(told, ("way", [(0, 0, 0), (1, 0, 0)], 1, {(0, 0, 0): 0, (1, 0, 0): 1}))

    def test_the_cells_are_no_list_handed_in(self):
        starts = [(0, 0, 0)]
        self.assertIsNot(wave((1, 1, 1), all_open, no_hole, starts, starts)[1], starts)

    def test_the_numbers_are_the_same_where_the_goals_are_shut(self):
        for seed in range(10):
            price, through = some_field((4, 4, 2), seed, [None, 1, 2], [None, 2])
            starts = all_cells(4, 4, 2)[:8]
            shut = [cell for cell in all_cells(4, 4, 2) if price(cell) is None]
            numbers = wave((4, 4, 2), price, through, starts, all_cells(4, 4, 2))[-1]
            self.assertEqual(wave((4, 4, 2), price, through, starts, shut), ("shut", numbers))


class InterfaceTest(unittest.TestCase):
    def test_arguments(self):
        self.assertEqual(str(inspect.signature(wave)), "(size, price, through, starts, goals)")


if __name__ == "__main__":
    unittest.main()
