"""[5], [6], [7], and [2] and [3] as far as they speak of shapes."""

import unittest

from copperbook.errors import NoShape
from copperbook.shapes import Block, Frame, Line, Shape, read_shape

FAR = 10 ** 40 - 1  # the greatest number of 40 figures
NO_NUMBERS = [True, False, None, "1", 1.0]


def box(x, y, wide, high):
    return {(x + a, y + b) for a in range(wide) for b in range(high)}


def pen_walk(corners, width):
    """The places of a line by walking the pen step by step."""
    half = width // 2
    x, y = corners[0]
    stops = [(x, y)]
    for goal in corners[1:]:
        while (x, y) != goal:
            x += (goal[0] > x) - (goal[0] < x)
            y += (goal[1] > y) - (goal[1] < y)
            stops.append((x, y))
    places = set()
    for x, y in stops:
        places |= box(x - half, y - half, width, width)
    return sorted(places)


def peeled(x, y, wide, high, thick):
    """The places of a frame by taking the edge off a block, thick times."""
    left = box(x, y, wide, high)
    gone = set()
    for _ in range(thick):
        edge = {(a, b) for a, b in left if not {(a - 1, b), (a + 1, b), (a, b - 1), (a, b + 1)} <= left}
        gone |= edge
        left -= edge
    return sorted(gone)


BLOCKS = [(0, 0, 1, 1), (0, 0, 3, 2), (-2, -1, 4, 3), (5, -7, 1, 6), (-9, 4, 40, 40),
          (FAR, FAR, 3, 2), (-FAR, FAR, 2, 3), (FAR - 1, -FAR, 1, 2)]
LINES = [
    ([(0, 0)], 1), ([(0, 0)], 3), ([(-4, 7)], 3), ([(2, 3), (2, 3)], 1), ([(2, 3), (2, 3), (2, 3)], 3),
    ([(0, 0), (5, 0)], 1), ([(5, 0), (0, 0)], 3), ([(1, 6), (1, -2)], 1), ([(1, -2), (1, 6)], 3),
    ([(0, 0), (4, 0), (4, 4), (0, 4), (0, 0)], 1), ([(0, 0), (6, 0), (6, 6), (0, 6), (0, 1)], 3),
    ([(0, 0), (4, 0), (2, 0), (2, -3), (2, -3), (-3, -3)], 1), ([(0, 0), (4, 0), (-4, 0)], 3),
    ([(FAR, FAR), (FAR - 4, FAR), (FAR - 4, FAR - 2)], 1), ([(FAR, -FAR), (FAR, 3 - FAR)], 3),
    ([(-FAR, -FAR)], 3), ([(k // 2, (k + 1) // 2) for k in range(40)], 1), ([(7, k % 2) for k in range(40)], 3),
]
FRAMES = [(0, 0, 5, 4, 1), (0, 0, 1, 1, 1), (-3, -2, 7, 6, 2), (-3, -2, 7, 7, 3), (1, 2, 6, 6, 3), (1, 2, 6, 3, 2),
          (0, -5, 9, 2, 1), (0, 0, 7, 9, 4), (4, 4, 5, 5, FAR), (FAR, -FAR, 5, 4, 1), (-FAR, FAR, 6, 5, 2),
          (0, 0, 40, 40, 5)]


def samples():
    shapes = [Block(*numbers) for numbers in BLOCKS]
    shapes += [Line(list(corners), width) for corners, width in LINES]
    return shapes + [Frame(*numbers) for numbers in FRAMES]


class Case(unittest.TestCase):
    def refused(self, make, *given):
        with self.subTest(repr(given)), self.assertRaises(NoShape):
            make(*given)


class PlacesTest(Case):
    def test_shapes_stand_under_shape_and_not_under_each_other(self):
        self.assertIsInstance(Shape(), Shape)
        for kind in [Block, Line, Frame]:
            self.assertTrue(issubclass(kind, Shape))
            for other in [Block, Line, Frame]:
                self.assertEqual(issubclass(kind, other), kind is other)

    def test_lists_are_sorted_with_each_place_once_as_a_tuple_of_two_ints(self):
        for shape in samples():
            cells = shape.cells()
            self.assertIs(type(cells), list)
            self.assertEqual(cells, sorted(set(cells)))
            for place in cells:
                self.assertIs(type(place), tuple)
                self.assertEqual([type(number) for number in place], [int, int])

    def test_a_box_is_the_least_one_around_the_places(self):
        for shape in samples():
            across = [place[0] for place in shape.cells()]
            down = [place[1] for place in shape.cells()]
            wide, high = max(across) - min(across) + 1, max(down) - min(down) + 1
            self.assertEqual(shape.box(), (min(across), min(down), wide, high), shape.told())

    def test_block_by_hand(self):
        self.assertEqual(Block(0, 0, 1, 1).cells(), [(0, 0)])
        self.assertEqual(Block(-1, 2, 2, 3).cells(), [(-1, 2), (-1, 3), (-1, 4), (0, 2), (0, 3), (0, 4)])
        self.assertEqual(Block(FAR, -FAR, 2, 1).cells(), [(FAR, -FAR), (FAR + 1, -FAR)])

    def test_blocks(self):
        for numbers in BLOCKS:
            self.assertEqual(Block(*numbers).cells(), sorted(box(*numbers)), numbers)

    def test_line_by_hand(self):
        self.assertEqual(Line([(4, -4)], 1).cells(), [(4, -4)])
        self.assertEqual(Line([(0, 0), (2, 0), (2, 1)], 1).cells(), [(0, 0), (1, 0), (2, 0), (2, 1)])
        self.assertEqual(Line([(0, 0), (0, 0)], 1).cells(), [(0, 0)])
        self.assertEqual(Line([(1, 1)], 3).cells(), Block(0, 0, 3, 3).cells())
        self.assertEqual(Line([(1, 1), (5, 1)], 3).cells(), Block(0, 0, 7, 3).cells())
        # The pen is square, so the outer corner of a bend is covered too.
        self.assertIn((4, -1), Line([(0, 0), (3, 0), (3, 3)], 3).cells())

    def test_lines(self):
        for corners, width in LINES:
            self.assertEqual(Line(list(corners), width).cells(), pen_walk(corners, width), (corners, width))

    def test_frame_by_hand(self):
        around = [(0, 0), (0, 1), (0, 2), (1, 0), (1, 2), (2, 0), (2, 1), (2, 2)]
        self.assertEqual(Frame(0, 0, 3, 3, 1).cells(), around)
        self.assertEqual(Frame(0, 0, 3, 3, 2).cells(), Block(0, 0, 3, 3).cells())
        self.assertEqual(sorted(box(0, 0, 5, 5) - set(Frame(0, 0, 5, 5, 2).cells())), [(2, 2)])
        self.assertEqual(Frame(-2, 3, 5, 2, FAR).cells(), Block(-2, 3, 5, 2).cells())

    def test_frames(self):
        for numbers in FRAMES:
            self.assertEqual(Frame(*numbers).cells(), peeled(*numbers[:4], min(numbers[4], 40)), numbers)


class RefusedTest(Case):
    def test_sizes_below_one(self):
        for low in [0, -1, -FAR]:
            self.refused(Block, 0, 0, low, 1)
            self.refused(Block, 0, 0, 1, low)
            self.refused(Frame, 0, 0, low, 1, 1)
            self.refused(Frame, 0, 0, 1, low, 1)
            self.refused(Frame, 0, 0, 1, 1, low)

    def test_what_is_no_number(self):
        for wrong in NO_NUMBERS:
            for at in range(4):
                numbers = [1, 1, 1, 1]
                numbers[at] = wrong
                self.refused(Block, *numbers)
            for at in range(5):
                numbers = [1, 1, 1, 1, 1]
                numbers[at] = wrong
                self.refused(Frame, *numbers)
            self.refused(Line, [(0, 0)], wrong)
            for corner in [(wrong, 1), (1, wrong)]:
                self.refused(Line, [corner], 1)
                self.refused(Line, [(1, 1), corner], 3)
                self.refused(Line, [(1, 1), corner, (1, 1)], 1)

    def test_widths(self):
        for width in [-3, -1, 0, 2, 4, 5, FAR]:
            self.refused(Line, [(0, 0)], width)

    def test_corners(self):
        self.refused(Line, [], 1)
        self.refused(Line, [], 3)
        self.refused(Line, [(0, 0), (1, 1)], 1)
        self.refused(Line, [(0, 0), (0, 5), (-1, 6)], 3)
        self.refused(Line, [(0, 0), (FAR, 0), (FAR - 1, 1), (0, 1)], 1)
        self.refused(Line, [(0, 0), (4, 0), (0, 4), (0, 0)], 1)

    def test_at_most_forty_corners(self):
        for width in [1, 3]:
            self.assertEqual(len(Line([(0, 0)] * 40, width).cells()), width * width)
            self.assertEqual(len(Line([(k, 0) for k in range(40)], width).cells()), (39 + width) * width)
            self.refused(Line, [(0, 0)] * 41, width)
            self.refused(Line, [(k, 0) for k in range(41)], width)

    def test_what_is_no_list_of_places(self):
        for corners in [None, 7, "ab", (0, 0), [0, 0], [(0,)], [(0, 0, 0)], [[0, 0]], [()], [None]]:
            self.refused(Line, corners, 1)

    def test_long_numbers_are_not_refused(self):
        # The bound of 40 figures is told of texts that are read, not of shapes that are made.
        long = FAR + 1
        self.assertEqual(Block(long, -long, 1, 1).cells(), [(long, -long)])
        self.assertEqual(Line([(long, long)], 1).cells(), [(long, long)])
        self.assertEqual(Frame(long, 0, 1, 1, long).cells(), [(long, 0)])
        self.assertEqual(Block(FAR, 0, 1, 1).moved(1, 0).told(), f"block {long} 0 1 1")


class ChangedTest(Case):
    def check(self, shape, change, rule):
        text, cells = shape.told(), shape.cells()
        other = change(shape)
        self.assertIs(type(other), type(shape))
        self.assertEqual(other.cells(), sorted(rule(x, y) for x, y in cells), text)
        self.assertEqual((shape.told(), shape.cells()), (text, cells))

    def test_moved(self):
        for shape in samples():
            for across, down in [(0, 0), (3, 0), (0, -5), (-2, 7), (FAR, -FAR)]:
                self.check(shape, lambda s: s.moved(across, down), lambda x, y: (x + across, y + down))

    def test_turned(self):
        for shape in samples():
            for high in [0, 1, 2, 12, -3, FAR, -FAR]:
                self.check(shape, lambda s: s.turned(high), lambda x, y: (high - 1 - y, x))

    def test_mirrored(self):
        for shape in samples():
            for wide in [0, 1, 2, 12, -3, FAR, -FAR]:
                self.check(shape, lambda s: s.mirrored(wide), lambda x, y: (wide - 1 - x, y))

    def test_by_hand(self):
        self.assertEqual(Block(1, 0, 2, 1).moved(2, 3).cells(), [(3, 3), (4, 3)])
        self.assertEqual(Block(1, 0, 2, 1).turned(4).cells(), [(3, 1), (3, 2)])
        self.assertEqual(Block(1, 0, 2, 1).mirrored(4).cells(), [(1, 0), (2, 0)])
        self.assertEqual(Line([(0, 0), (2, 0)], 1).turned(1).cells(), [(0, 0), (0, 1), (0, 2)])
        self.assertEqual(Line([(0, 1), (2, 1)], 1).mirrored(3).told(), "line 1 2 1 0 1")
        self.assertEqual(Frame(1, 2, 5, 4, 1).turned(8).told(), "frame 2 1 4 5 1")
        self.assertEqual(Frame(1, 2, 5, 4, 1).mirrored(8).told(), "frame 2 2 5 4 1")

    def test_shapes_too_wide_for_their_places_to_be_asked(self):
        self.assertEqual(Block(-FAR, 2, FAR, 3).mirrored(5).told(), "block 5 2 " + str(FAR) + " 3")
        self.assertEqual(Frame(0, 0, 7, FAR, 2).turned(FAR).told(), f"frame 0 0 {FAR} 7 2")
        self.assertEqual(Line([(0, 0), (FAR, 0)], 3).moved(-FAR, 1).told(), f"line 3 -{FAR} 1 0 1")

    def test_what_is_no_number_is_refused(self):
        for shape in [Block(0, 0, 2, 1), Line([(0, 0), (2, 0)], 1), Frame(0, 0, 4, 3, 1)]:
            for wrong in NO_NUMBERS:
                self.refused(shape.moved, wrong, 0)
                self.refused(shape.moved, 0, wrong)
                self.refused(shape.turned, wrong)
                self.refused(shape.mirrored, wrong)


class TextTest(Case):
    def test_told(self):
        self.assertEqual(Block(0, -1, 20, 3).told(), "block 0 -1 20 3")
        self.assertEqual(Line([(0, 0)], 1).told(), "line 1 0 0")
        self.assertEqual(Line([(-1, 10), (-1, -2), (5, -2)], 3).told(), "line 3 -1 10 -1 -2 5 -2")
        self.assertEqual(Frame(-10, 0, 4, 5, 100).told(), "frame -10 0 4 5 100")
        self.assertEqual(Block(FAR, -FAR, FAR, 1).told(), "block " + "9" * 40 + " -" + "9" * 40 + " " + "9" * 40 + " 1")

    def test_what_is_told_is_read(self):
        for shape in samples():
            text = shape.told()
            other = read_shape(text)
            self.assertIs(type(other), type(shape))
            self.assertEqual(other.told(), text)
            self.assertEqual(other.cells(), shape.cells())

    def test_read_by_hand(self):
        self.assertEqual(read_shape("block 0 1 2 1").cells(), [(0, 1), (1, 1)])
        self.assertEqual(read_shape("line 1 3 -1 3 1").cells(), [(3, -1), (3, 0), (3, 1)])
        self.assertEqual(read_shape("frame 0 0 1 2 1").cells(), [(0, 0), (0, 1)])

    def test_at_most_forty_figures(self):
        for figures in ["9" * 40, "1" + "0" * 39]:
            for text in [f"block {figures} -{figures} {figures} {figures}", f"line 3 -{figures} {figures}",
                         f"frame -{figures} {figures} 2 3 {figures}"]:
                self.assertEqual(read_shape(text).told(), text)
        long = "1" + "0" * 40
        for text in [f"block {long} 0 1 1", f"block 0 -{long} 1 1", f"block 0 0 {long} 1", f"block 0 0 1 {long}",
                     f"line 1 {long} 0", f"line 1 0 -{long}", f"frame 0 0 1 1 {long}", f"frame {long} 0 1 1 1"]:
            self.refused(read_shape, text)

    def test_signs_around_and_between(self):
        for text in ["block 0 0 1 1", "line 1 0 0", "frame 0 0 3 3 1"]:
            for wrong in [" " + text, text + " ", text.replace(" ", "  ", 1), text[:-2] + " " + text[-2:],
                          "\t" + text, text + "\t", text.replace(" ", "\t"), text.replace(" 0", "\t0", 1),
                          "\n" + text, text + "\n", text.replace(" ", "\n", 1), text + "\r\n", text.upper(),
                          text + ",", text + "\n" + text, text + " " + text]:
                self.refused(read_shape, wrong)

    def test_numbers_that_are_none(self):
        for wrong in ["", "-", "01", "00", "-0", "-01", "+1", "+0", "1.", "1.0", "1e0", "0x1", "1_1", "--1", "a", "#"]:
            for good in ["block 1 1 1 1", "line 1 1 1", "line 1 1 1 1 1", "frame 1 1 1 1 1"]:
                words = good.split(" ")
                for at in range(1, len(words)):
                    self.refused(read_shape, " ".join(words[:at] + [wrong] + words[at + 1:]))

    def test_other_words_and_counts(self):
        for text in ["", " ", "-", "0", "block", "line", "frame", "shape 0 0 1 1", "blocks 0 0 1 1", "Block 0 0 1 1",
                     "0 0 1 1", "1 0 0", "block 0 0 1", "block 0 0 1 1 1", "frame 0 0 1 1", "frame 0 0 1 1 1 1",
                     "line 1", "line 3", "line 1 0", "line 1 0 0 0", "line 3 0 0 0 1 0", "circle 1 0 0"]:
            self.refused(read_shape, text)

    def test_numbers_that_make_no_shape(self):
        for text in ["block 0 0 0 1", "block 0 0 1 0", "block 0 0 -1 1", "frame 0 0 0 1 1", "frame 0 0 1 -2 1",
                     "frame 0 0 1 1 0", "line 2 0 0", "line 0 0 0", "line -1 0 0", "line 1 0 0 1 1",
                     "line 3 0 0 0 4 1 5"]:
            self.refused(read_shape, text)

    def test_a_line_of_one_corner_to_forty(self):
        for many in [1, 2, 39, 40]:
            text = "line 1" + " 0 0" * many
            self.assertEqual(read_shape(text).told(), text)
        self.refused(read_shape, "line 1" + " 0 0" * 41)
        self.refused(read_shape, "line 3" + " 0 0" * 41)

    def test_what_is_no_text(self):
        for wrong in [None, 1, True, ["block", 0, 0, 1, 1], b"block 0 0 1 1"]:
            self.refused(read_shape, wrong)


class KeptTest(unittest.TestCase):
    def test_a_list_handed_in_and_changed_changes_nothing(self):
        corners = [(0, 0), (3, 0)]
        line = Line(corners, 1)
        cells, text = line.cells(), line.told()
        corners.append((3, 3))
        corners[0] = (9, 0)
        self.assertEqual((line.cells(), line.told()), (cells, text))
        corners.clear()
        self.assertEqual((line.cells(), line.told()), (cells, text))
        self.assertEqual(line.moved(1, 0).told(), "line 1 1 0 4 0")

    def test_a_list_handed_in_is_not_changed(self):
        corners = [(0, 0), (3, 0), (3, 2)]
        line = Line(corners, 3)
        line.cells(), line.told(), line.moved(1, 1), line.turned(4), line.mirrored(4)
        self.assertEqual(corners, [(0, 0), (3, 0), (3, 2)])

    def test_a_list_told_and_changed_changes_nothing(self):
        for shape in samples():
            cells = shape.cells()
            kept = list(cells)
            cells.clear()
            self.assertEqual(shape.cells(), kept)
            self.assertIsNot(shape.cells(), shape.cells())


if __name__ == "__main__":
    unittest.main()
