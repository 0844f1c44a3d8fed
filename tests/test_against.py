"""[20], [21], and [2] and [4] as far as they speak of faults by a drawing."""

import copy
import inspect
import itertools
import random
import unittest

from copperbook.against import against
from copperbook.boards import Board
from copperbook.drawings import Drawing
from copperbook.errors import NoPin
from copperbook.islands import islands
from copperbook.pictures import picture, read_picture
from samples import all_cells, drawn, every_board, some_board, some_drawing, told

TWO = Drawing([("a", "k", 2), ("b", "k", 2)], [("one", [("a", 0), ("b", 0)]), ("two", [("b", 1), ("a", 1)])])


def drawing_of(nets):
    """The drawing of parts of as many pins as these nets have of them."""
    pins = [pin for _, joined in nets for pin in joined]
    names = sorted({name for name, _ in pins})
    return Drawing([(name, "k", [part for part, _ in pins].count(name)) for name in names], nets)


def word_by_word(board, drawing, places):
    """All faults, as the document says them."""
    found = {("bare", pin) for pin in drawing.pins() if places[pin] not in board.cells()}
    landed = {name: sorted(pin for pin in pins if ("bare", pin) not in found) for name, pins in drawing.nets}
    land = islands(board)
    marks = {pin: [places[pin] in island for island in land].index(True) for pins in landed.values() for pin in pins}
    for name, pins in landed.items():
        found |= {("open", name, pins[0], other) for other in pins[1:] if marks[other] != marks[pins[0]]}
    for one, other in itertools.combinations(sorted(landed), 2):
        for mark in range(len(land)):
            pins = [pin for pin in landed[one] if marks[pin] == mark]
            others = [pin for pin in landed[other] if marks[pin] == mark]
            if pins and others:
                found.add(("short", one, other, min(pins), min(others)))
    return sorted(found)


def some_places(board, drawing, seed):
    """Places of which some lie on one cell, and few off the copper."""
    chance = random.Random(seed)
    spots = all_cells(board.wide, board.high, board.layers)
    copper = board.cells() or spots
    few = [chance.choice(copper) for _ in range(6)]
    return {pin: chance.choice(chance.choice([few, few, copper, copper, spots])) for pin in drawing.pins()}


class Case(unittest.TestCase):
    def check(self, board, drawing, places):
        """What is told, held against the document's words, and what was handed in, held against itself."""
        before = copy.deepcopy((told(board), drawn(drawing), places))
        found = against(board, drawing, places)
        self.assertEqual(found, word_by_word(board, drawing, places))
        self.assertIs(type(found), list)
        self.assertEqual((told(board), drawn(drawing), places), before)
        self.assertEqual(list(places), list(before[2]))
        return found

    def faults(self, text, nets, *cells):
        """The faults of a picture by nets, with the cells of the pins as they stand in the nets."""
        pins = [pin for _, joined in nets for pin in joined]
        return self.check(read_picture(text), drawing_of(nets), dict(zip(pins, cells, strict=True)))


class BareTest(Case):
    def test_by_itself(self):
        nets = [("n", [("a", 0), ("a", 1)])]
        self.assertEqual(self.faults("board 3 1 1\n##.\n", nets, (0, 0, 0), (2, 0, 0)), [("bare", ("a", 1))])
        self.assertEqual(self.faults("board 3 1 1\n##.\n", nets, (2, 0, 0), (0, 0, 0)), [("bare", ("a", 0))])
        self.assertEqual(self.faults("board 3 1 1\n##.\n", nets, (2, 0, 0), (2, 0, 0)),
                         [("bare", ("a", 0)), ("bare", ("a", 1))])

    def test_the_layer_counts_and_a_hole_is_no_copper(self):
        nets = [("n", [("a", 0)])]
        self.assertEqual(self.faults("board 1 1 2\nO\no\n", nets, (0, 0, 0)), [])
        self.assertEqual(self.faults("board 1 1 2\nO\no\n", nets, (0, 0, 1)), [("bare", ("a", 0))])

    def test_bare_pins_count_for_no_open_and_no_short(self):
        nets = [("n", [("a", 0), ("a", 1), ("a", 2)]), ("m", [("b", 0)])]
        cells = [(1, 0, 0), (0, 0, 0), (2, 0, 0), (1, 0, 0)]
        self.assertEqual(self.faults("board 3 1 1\n#.#\n", nets, *cells),
                         [("bare", ("a", 0)), ("bare", ("b", 0)), ("open", "n", ("a", 1), ("a", 2))])

    def test_all_bare(self):
        self.assertEqual(self.check(Board(1, 1), TWO, {pin: (0, 0, 0) for pin in TWO.pins()}),
                         [("bare", pin) for pin in TWO.pins()])


class OpenTest(Case):
    def test_by_itself(self):
        nets = [("n", [("a", 1), ("a", 0)])]
        self.assertEqual(self.faults("board 3 1 1\n#.#\n", nets, (0, 0, 0), (2, 0, 0)),
                         [("open", "n", ("a", 0), ("a", 1))])
        self.assertEqual(self.faults("board 3 1 1\n###\n", nets, (0, 0, 0), (2, 0, 0)), [])
        self.assertEqual(self.faults("board 2 2 1\n#.\n.#\n", nets, (0, 0, 0), (1, 1, 0)),
                         [("open", "n", ("a", 0), ("a", 1))])

    def test_from_the_first_pin_to_each_other_island(self):
        nets = [("n", [("b", 0), ("a", 2), ("a", 0), ("a", 1), ("a", 3)])]
        cells = [(4, 0, 0), (2, 0, 0), (0, 0, 0), (2, 0, 0), (0, 0, 0)]
        self.assertEqual(self.faults("board 5 1 1\n#.#.#\n", nets, *cells),
                         [("open", "n", ("a", 0), other) for other in [("a", 1), ("a", 2), ("b", 0)]])

    def test_from_the_first_pin_that_is_not_bare(self):
        nets = [("n", [("a", 0), ("a", 1), ("a", 2)])]
        self.assertEqual(self.faults("board 4 1 1\n#.#.\n", nets, (1, 0, 0), (0, 0, 0), (2, 0, 0)),
                         [("bare", ("a", 0)), ("open", "n", ("a", 1), ("a", 2))])
        self.assertEqual(self.faults("board 4 1 1\n#.#.\n", nets, (0, 0, 0), (3, 0, 0), (2, 0, 0)),
                         [("bare", ("a", 1)), ("open", "n", ("a", 0), ("a", 2))])
        self.assertEqual(self.faults("board 4 1 1\n#.#.\n", nets, (3, 0, 0), (3, 0, 0), (2, 0, 0)),
                         [("bare", ("a", 0)), ("bare", ("a", 1))])

    def test_through_holes(self):
        nets = [("n", [("a", 0), ("a", 1)])]
        self.assertEqual(self.faults("board 2 1 2\nO.\nO#\n", nets, (0, 0, 0), (1, 0, 1)), [])
        self.assertEqual(self.faults("board 2 1 2\n#.\n##\n", nets, (0, 0, 0), (1, 0, 1)),
                         [("open", "n", ("a", 0), ("a", 1))])

    def test_pins_by_name_first(self):
        nets = [("n", [("b", 0), ("a", 0), ("a10", 0), ("a9", 0)])]
        cells = [(0, 0, 0), (2, 0, 0), (0, 0, 0), (0, 0, 0)]
        self.assertEqual(self.faults("board 3 1 1\n#.#\n", nets, *cells),
                         [("open", "n", ("a", 0), other) for other in [("a10", 0), ("a9", 0), ("b", 0)]])


class ShortTest(Case):
    def test_by_itself(self):
        nets = [("n", [("a", 0)]), ("m", [("b", 0)])]
        self.assertEqual(self.faults("board 2 1 1\n##\n", nets, (0, 0, 0), (1, 0, 0)),
                         [("short", "m", "n", ("b", 0), ("a", 0))])
        self.assertEqual(self.faults("board 3 1 1\n#.#\n", nets, (0, 0, 0), (2, 0, 0)), [])

    def test_pins_at_one_cell(self):
        nets = [("n", [("a", 0), ("a", 1)]), ("m", [("a", 2)])]
        self.assertEqual(self.faults("board 1 1 1\n#\n", nets, (0, 0, 0), (0, 0, 0), (0, 0, 0)),
                         [("short", "m", "n", ("a", 2), ("a", 0))])
        self.assertEqual(self.faults("board 1 1 1\n.\n", nets, (0, 0, 0), (0, 0, 0), (0, 0, 0)),
                         [("bare", ("a", 0)), ("bare", ("a", 1)), ("bare", ("a", 2))])
        self.assertEqual(self.faults("board 2 1 1\n##\n", nets[:1], (1, 0, 0), (1, 0, 0)), [])

    def test_the_least_pins_there(self):
        nets = [("n", [("b", 1), ("a", 0), ("b", 0)]), ("m", [("d", 0), ("c", 1), ("c", 0)])]
        cells = [(0, 0, 0), (3, 0, 0), (1, 0, 0), (0, 0, 0), (1, 0, 0), (5, 0, 0)]
        self.assertEqual(self.faults("board 6 1 1\n##.#.#\n", nets, *cells),
                         [("open", "m", ("c", 0), ("c", 1)), ("open", "m", ("c", 0), ("d", 0)),
                          ("open", "n", ("a", 0), ("b", 0)), ("open", "n", ("a", 0), ("b", 1)),
                          ("short", "m", "n", ("c", 1), ("b", 0))])

    def test_nets_that_share_two_islands(self):
        places = {("a", 0): (0, 0, 0), ("b", 0): (2, 0, 0), ("a", 1): (0, 0, 0), ("b", 1): (2, 0, 0)}
        self.assertEqual(self.check(read_picture("board 3 1 1\n#.#\n"), TWO, places),
                         [("open", "one", ("a", 0), ("b", 0)), ("open", "two", ("a", 1), ("b", 1)),
                          ("short", "one", "two", ("a", 0), ("a", 1)), ("short", "one", "two", ("b", 0), ("b", 1))])
        self.assertEqual(self.check(read_picture("board 3 1 1\n###\n"), TWO, places),
                         [("short", "one", "two", ("a", 0), ("a", 1))])

    def test_each_two_of_three_nets(self):
        nets = [("z", [("a", 0)]), ("x", [("a", 1)]), ("y", [("a", 2)])]
        self.assertEqual(self.faults("board 3 1 1\n###\n", nets, (0, 0, 0), (1, 0, 0), (2, 0, 0)),
                         [("short", "x", "y", ("a", 1), ("a", 2)), ("short", "x", "z", ("a", 1), ("a", 0)),
                          ("short", "y", "z", ("a", 2), ("a", 0))])

    def test_the_lesser_name_as_texts_are(self):
        nets = [("n9", [("a", 0)]), ("n10", [("a", 1)])]
        self.assertEqual(self.faults("board 1 1 1\n#\n", nets, (0, 0, 0), (0, 0, 0)),
                         [("short", "n10", "n9", ("a", 1), ("a", 0))])


class WholeTest(Case):
    def test_all_kinds_on_one_board(self):
        nets = [("n", [("a", 0), ("a", 1), ("a", 2)]), ("m", [("b", 0)]), ("l", [("c", 0)])]
        cells = [(0, 0, 0), (2, 0, 0), (1, 0, 0), (2, 0, 0), (3, 0, 0)]
        self.assertEqual(self.faults("board 4 1 1\n#.#.\n", nets, *cells),
                         [("bare", ("a", 2)), ("bare", ("c", 0)), ("open", "n", ("a", 0), ("a", 1)),
                          ("short", "m", "n", ("b", 0), ("a", 1))])

    def test_no_fault(self):
        places = {("a", 0): (0, 0, 0), ("b", 0): (2, 0, 1), ("a", 1): (0, 2, 0), ("b", 1): (2, 2, 0)}
        board = read_picture("board 3 3 2\nO..\n...\n###\nO##\n.#.\n...\n")
        self.assertEqual(self.check(board, TWO, places), [])
        self.assertEqual(self.check(board, Drawing([], []), {}), [])
        self.assertEqual(self.check(Board(1, 1), Drawing([], []), {}), [])

    def test_all_small_boards(self):
        places = {("a", 0): (0, 0, 0), ("b", 0): (1, 1, 0), ("a", 1): (1, 0, 0), ("b", 1): (0, 1, 0)}
        for board in every_board((2, 2, 1)):
            self.check(board, TWO, places)
        for size in [(2, 1, 2), (1, 2, 3)]:
            spots = all_cells(*size)
            for board in every_board(size):
                self.check(board, TWO, dict(zip(TWO.pins(), spots[-4:])))

    def test_all_places_on_one_board(self):
        board = read_picture("board 3 1 2\n#.O\n##O\n")
        spots = [(0, 0, 0), (0, 0, 1), (1, 0, 0), (2, 0, 0), (2, 0, 1)]
        for cells in itertools.product(spots, repeat=4):
            self.check(board, TWO, dict(zip(TWO.pins(), cells)))

    def test_larger_boards(self):
        for seed, size in enumerate([(12, 12, 1), (12, 12, 3), (5, 5, 2), (4, 3, 3), (1, 12, 2), (2, 2, 1)] * 8):
            board = some_board(size, seed, [0.3, 0.5, 0.7][seed % 3])
            drawing = some_drawing(seed, seed % 9)
            self.check(board, drawing, some_places(board, drawing, seed))

    def test_eight_parts_of_eight_pins(self):
        parts = [("p" + str(number), "k", 8) for number in range(8)]
        pins = [("p" + str(part), pin) for pin in range(8) for part in range(8)]
        for many in [1, 5, 24]:
            drawing = Drawing(parts, [("n" + str(at), pins[at::many]) for at in range(many)])
            for seed, share in enumerate([0.3, 0.5, 0.6]):
                board = some_board((12, 12, 2), seed, share)
                self.check(board, drawing, some_places(board, drawing, seed))

    def test_sorted_as_tuples_are(self):
        board, drawing = some_board((12, 12, 2), 4), some_drawing(5)
        found = against(board, drawing, some_places(board, drawing, 4))
        self.assertEqual(found, sorted(found))
        self.assertEqual({row[0] for row in found}, {"bare", "open", "short"})
        self.assertEqual({type(row) for row in found}, {tuple})


class AgainTest(Case):
    def test_behind_a_cell_more_and_less(self):
        board, drawing = read_picture("board 3 1 1\n#.#\n"), drawing_of([("n", [("a", 0), ("a", 1)])])
        places = {("a", 0): (0, 0, 0), ("a", 1): (2, 0, 0)}
        first = against(board, drawing, places)
        self.assertEqual(first, [("open", "n", ("a", 0), ("a", 1))])
        board.put([(1, 0, 0)])
        self.assertEqual(against(board, drawing, places), [])
        board.take([(1, 0, 0)])
        self.assertEqual(against(board, drawing, places), first)
        board.take([(0, 0, 0)])
        self.assertEqual(against(board, drawing, places), [("bare", ("a", 0))])

    def test_behind_a_hole_more_and_less(self):
        board, drawing = read_picture("board 1 1 2\n#\n#\n"), drawing_of([("n", [("a", 0), ("a", 1)])])
        places = {("a", 0): (0, 0, 0), ("a", 1): (0, 0, 1)}
        first = against(board, drawing, places)
        self.assertEqual(first, [("open", "n", ("a", 0), ("a", 1))])
        board.drill(0, 0)
        self.assertEqual(against(board, drawing, places), [])
        board.plug(0, 0)
        self.assertEqual(against(board, drawing, places), first)

    def test_each_cell_and_hole_of_a_board(self):
        board, drawing = some_board((5, 4, 2), 8, 0.6), some_drawing(8, 4)
        places = some_places(board, drawing, 8)
        first = self.check(board, drawing, places)
        for cell in all_cells(5, 4, 2):
            there, back = (board.take, board.put) if board.is_copper(*cell) else (board.put, board.take)
            there([cell])
            self.check(board, drawing, places)
            back([cell])
            self.assertEqual(against(board, drawing, places), first)
        for x, y in itertools.product(range(5), range(4)):
            there, back = (board.plug, board.drill) if board.has_hole(x, y) else (board.drill, board.plug)
            there(x, y)
            self.check(board, drawing, places)
            back(x, y)
            self.assertEqual(against(board, drawing, places), first)

    def test_other_places_and_drawings_in_turn(self):
        board = some_board((6, 6, 2), 2, 0.6)
        drawings = [some_drawing(seed, 5) for seed in range(4)]
        asks = [(drawing, some_places(board, drawing, seed)) for seed, drawing in enumerate(drawings * 2)]
        first = [against(board, *ask) for ask in asks]
        for ask, found in reversed(list(zip(asks, first))):
            self.assertEqual(against(board.copy(), *ask), found)

    def test_a_list_told_and_changed(self):
        board, places = read_picture("board 3 1 1\n#.#\n"), {pin: (pin[1] * 2, 0, 0) for pin in TWO.pins()}
        places[("b", 0)] = (1, 0, 0)
        places[("b", 1)] = (0, 0, 0)
        text, same = picture(board), against(board, TWO, places)
        self.assertEqual(len(same), 3)
        found = against(board, TWO, places)
        found.append(("bare", ("a", 0)))
        found[0] = None
        self.assertEqual(against(board, TWO, places), same)
        found.clear()
        self.assertEqual(against(board, TWO, places), same)
        self.assertEqual(picture(board), text)

    def test_a_drawing_handed_on_and_its_lists_changed(self):
        board, places = read_picture("board 3 1 1\n#.#\n"), {("a", 0): (0, 0, 0), ("a", 1): (2, 0, 0)}
        parts, nets = [("a", "k", 2)], [("n", [("a", 0), ("a", 1)])]
        drawing = Drawing(parts, nets)
        for rows in [nets[0][1], nets, parts, drawing.nets[0][1], drawing.nets, drawing.parts]:
            rows.clear()
            self.assertEqual(against(board, drawing, places), [("open", "n", ("a", 0), ("a", 1))])


class PlacesTest(Case):
    def refused(self, board, drawing, places):
        before = copy.deepcopy((told(board), drawn(drawing), places))
        with self.subTest(repr(places)), self.assertRaises(NoPin):
            against(board, drawing, places)
        self.assertEqual((told(board), drawn(drawing), places), before)

    def test_a_pin_without_a_place(self):
        board = read_picture("board 2 1 1\n#.\n")
        whole = {pin: (0, 0, 0) for pin in TWO.pins()}
        self.refused(board, TWO, {})
        for pin in TWO.pins():
            self.refused(board, TWO, {other: cell for other, cell in whole.items() if other != pin})
            self.refused(board, TWO, {pin: (0, 0, 0)})
            self.refused(board, TWO, {**whole, pin: None})

    def test_cells_beyond_the_board(self):
        far = 10 ** 40
        for wide, high, layers in [(1, 1, 1), (3, 2, 2), (12, 12, 3)]:
            board = Board(wide, high, layers)
            board.put(all_cells(wide, high, layers))
            whole = {pin: (wide - 1, high - 1, layers - 1) for pin in TWO.pins()}
            self.assertEqual(len(self.check(board, TWO, whole)), 1)
            for pin in TWO.pins():
                for cell in [(-1, 0, 0), (wide, 0, 0), (0, -1, 0), (0, high, 0), (0, 0, -1), (0, 0, layers), (far, 0, 0),
                             (0, -far, 0), (0, 0, far), (-1, -1, -1), (wide, high, layers)]:
                    self.refused(board, TWO, {**whole, pin: cell})

    def test_what_is_no_cell(self):
        board = read_picture("board 2 2 2\nOO\nOO\nOO\nOO\n")
        whole = {pin: (0, 0, 0) for pin in TWO.pins()}
        for pin in TWO.pins():
            for cell in [(True, 0, 0), (0, False, 0), (0, 0, True), (0, 0), (0, 0, 0, 0), (), 0, (None, 0, 0), [0, 0, 0],
                         "000", False, (0.0, 0, 0)]:
                self.refused(board, TWO, {**whole, pin: cell})

    def test_keys_that_only_equal_a_pin(self):
        board = read_picture("board 1 1 1\n#\n")
        whole = {pin: (0, 0, 0) for pin in TWO.pins()}
        for pin in TWO.pins():
            rest = {other: cell for other, cell in whole.items() if other != pin}
            self.refused(board, TWO, {**rest, (pin[0], bool(pin[1])): (0, 0, 0)})
            self.refused(board, TWO, {**rest, (pin[0], float(pin[1])): (0, 0, 0)})

    def test_other_things_are_passed_over(self):
        board = read_picture("board 3 1 1\n#.#\n")
        drawing = drawing_of([("n", [("a", 0), ("a", 1)])])
        places = {("a", 0): (0, 0, 0), ("a", 1): (2, 0, 0)}
        more = {("a", 2): (1, 0, 0), ("b", 0): (0, 0, 0), ("a", -1): None, "a": (9, 9, 9), None: None, 0: (2, 0, 0),
                ("a",): (0, 0), ("a", 0, 0): (0, 0, 0), (0, 0, 0): ("a", 0), "n": [], ("n", 0): (0, 0, 0), (): 1,
                True: False}
        for places in [{**places, **more}, {**more, **places}]:
            self.assertEqual(self.check(board, drawing, places), [("open", "n", ("a", 0), ("a", 1))])
        self.assertEqual(self.check(board, Drawing([], []), more), [])
        self.refused(board, drawing, more)

    def test_the_order_of_the_dict_is_free(self):
        board, drawing = some_board((6, 6, 2), 2, 0.6), some_drawing(3, 5)
        places = some_places(board, drawing, 1)
        first = self.check(board, drawing, places)
        for seed in range(5):
            pins = list(places)
            random.Random(seed).shuffle(pins)
            self.assertEqual(self.check(board, drawing, {pin: places[pin] for pin in pins}), first)

    def test_places_changed_later(self):
        board, places = read_picture("board 2 1 1\n##\n"), {pin: (0, 0, 0) for pin in TWO.pins()}
        found = against(board, TWO, places)
        same = list(found)
        places.clear()
        self.assertEqual(found, same)
        self.refused(board, TWO, places)

    def test_what_is_no_dict(self):
        for wrong in [None, 0, [], (), "", [(("a", 0), (0, 0, 0))]]:
            self.refused(Board(1, 1), TWO, wrong)


class InterfaceTest(unittest.TestCase):
    def test_arguments(self):
        self.assertEqual(str(inspect.signature(against)), "(board, drawing, places)")


if __name__ == "__main__":
    unittest.main()
