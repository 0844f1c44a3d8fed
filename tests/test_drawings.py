"""[19], and [2] as far as it speaks of drawings."""

import copy
import inspect
import itertools
import unittest

from copperbook.drawings import Drawing
from copperbook.errors import NoDrawing, NoPin
from samples import drawn, some_drawing

PARTS = [("r1", "res", 2), ("c1", "cap", 2), ("t1", "tra", 3)]
NETS = [("in", [("r1", 0)]), ("mid", [("t1", 2), ("r1", 1), ("c1", 0)]), ("out", [("t1", 0), ("t1", 1)]),
        ("gnd", [("c1", 1)])]
NO_NUMBERS = [True, False, None, "1", "", 1.0, 2.0, [1], (1,)]
NO_NAMES = ["", "abcdefghi", "a23456789", "A", "aB", "Abc", "abC", "1", "1a", "0", "a_b", "_a", "a b", " a", "a ", "a-b",
            "-a", "a.", "a\n", "\n", "a\t", "{", "a{", "a`", "`a", "a/", "a:", "a@", "a[", " ", "abcdefgh ",
            None, 0, 1, True, ["a"], ("a",), b"a", {}]
NAMES = ["a", "z", "a0", "z9", "abcdefgh", "a1234567", "z9999999", "a0a0a0a0", "mnopqrst", "uvwxyz", "hijkl"]


def one_part(name="a", kind="k", many=1, net="n"):
    return ([(name, kind, many)], [(net, [(name, number) for number in range(many)])])


class DrawingTest(unittest.TestCase):
    def check(self, parts, nets):
        """All that is told of a drawing, held against the document's words."""
        drawing = Drawing(copy.deepcopy(parts), copy.deepcopy(nets))
        self.assertEqual((drawing.parts, drawing.nets), (parts, nets))
        pins = sorted((name, number) for name, kind, many in parts for number in range(many))
        self.assertEqual(drawing.pins(), pins)
        for pin in pins:
            self.assertEqual([drawing.net_of(pin)], [name for name, joined in nets if pin in joined])
        return drawing

    def test_by_hand(self):
        drawing = self.check(PARTS, NETS)
        self.assertEqual(drawing.pins(), [("c1", 0), ("c1", 1), ("r1", 0), ("r1", 1), ("t1", 0), ("t1", 1), ("t1", 2)])
        self.assertEqual([drawing.net_of(pin) for pin in drawing.pins()],
                         ["mid", "gnd", "in", "mid", "out", "out", "mid"])
        self.assertEqual((drawing.parts, drawing.nets), (PARTS, NETS))
        self.assertIs(type(drawing.parts), list)
        self.assertIs(type(drawing.nets), list)

    def test_no_parts(self):
        drawing = self.check([], [])
        self.assertEqual((drawing.parts, drawing.nets, drawing.pins()), ([], [], []))
        with self.assertRaises(NoPin):
            drawing.net_of(("a", 0))

    def test_one_pin(self):
        self.assertEqual(self.check(*one_part()).net_of(("a", 0)), "n")

    def test_eight_parts_of_eight_pins(self):
        parts = [("p" + str(number), "k", 8) for number in range(8)]
        pins = [("p" + str(part), pin) for pin in range(8) for part in range(8)]
        drawing = self.check(parts, [("all", pins)])
        self.assertEqual(len(drawing.pins()), 64)
        self.check(parts, [("n" + str(at), pins[4 * at:4 * at + 4]) for at in range(16)])

    def test_twenty_four_nets(self):
        parts = [(name, "k", 8) for name in "abc"]
        pins = [(name, pin) for name in "cab" for pin in range(7, -1, -1)]
        self.check(parts, [("n" + str(at), [pin]) for at, pin in enumerate(pins)])
        parts = [(name, "k", 8) for name in "abcdefgh"]
        pins = [(name, pin) for name in "hgfedcba" for pin in range(8)]
        self.check(parts, [("n" + str(at), pins[at::24]) for at in range(24)])

    def test_each_many(self):
        for many in range(1, 9):
            drawing = self.check(*one_part("a", "k", many))
            self.assertEqual(drawing.pins(), [("a", number) for number in range(many)])

    def test_names_and_kinds(self):
        for name in NAMES:
            self.check(*one_part(name))
            self.check(*one_part("a", name))
            self.check(*one_part("a", "k", 1, name))
        self.check([(name, name, 1) for name in NAMES[:8]], [(name, [(name, 0)]) for name in NAMES[:8]])

    def test_a_part_and_a_net_of_one_name(self):
        self.check(*one_part("a", "a", 2, "a"))

    def test_pins_sorted_by_name_and_number(self):
        parts = [("b", "k", 2), ("aa", "k", 1), ("a", "k", 3), ("a10", "k", 1), ("a9", "k", 1)]
        pins = [("b", 1), ("a9", 0), ("a", 2), ("b", 0), ("aa", 0), ("a", 0), ("a10", 0), ("a", 1)]
        drawing = self.check(parts, [("n", pins)])
        self.assertEqual(drawing.pins(), [("a", 0), ("a", 1), ("a", 2), ("a10", 0), ("a9", 0), ("aa", 0), ("b", 0),
                                          ("b", 1)])
        self.assertEqual((drawing.parts, drawing.nets), (parts, [("n", pins)]))

    def test_many_drawings(self):
        for seed, parts in enumerate(list(range(9)) * 5):
            drawing = some_drawing(seed, parts)
            self.check(drawing.parts, drawing.nets)

    def test_by_name(self):
        self.assertEqual(Drawing(nets=NETS, parts=PARTS).net_of(pin=("r1", 0)), "in")


class KeptTest(unittest.TestCase):
    def test_what_is_handed_in_is_not_changed_and_not_kept(self):
        parts, nets = copy.deepcopy(PARTS), copy.deepcopy(NETS)
        drawing = Drawing(parts, nets)
        first = drawn(drawing)
        self.assertEqual((parts, nets), (PARTS, NETS))
        nets[0][1].append(("x", 0))
        nets[1][1].clear()
        self.assertEqual(drawn(drawing), first)
        parts.append(("x", "k", 1))
        parts[0] = ("y", "k", 1)
        nets[0] = ("other", [("y", 0)])
        self.assertEqual(drawn(drawing), first)
        parts.clear()
        nets.clear()
        self.assertEqual(drawn(drawing), first)

    def test_what_is_told_and_changed_changes_nothing(self):
        drawing = Drawing(PARTS, NETS)
        pins = drawing.pins()
        same = list(pins)
        drawing.pins().append(("x", 0))
        drawing.pins().clear()
        self.assertEqual(drawing.pins(), same)
        nets = [drawing.net_of(pin) for pin in same]
        drawing.nets[0][1].append(("x", 0))
        drawing.nets[1][1].clear()
        drawing.parts.clear()
        drawing.nets.clear()
        self.assertEqual(drawing.pins(), same)
        self.assertEqual([drawing.net_of(pin) for pin in same], nets)
        with self.assertRaises(NoPin):
            drawing.net_of(("x", 0))

    def test_two_drawings_of_the_same_lists(self):
        parts, nets = copy.deepcopy(PARTS), copy.deepcopy(NETS)
        one, other = Drawing(parts, nets), Drawing(parts, nets)
        first = drawn(other)
        one.nets[0][1].clear()
        one.nets.clear()
        one.parts.clear()
        self.assertEqual(drawn(other), first)
        self.assertEqual((parts, nets), (PARTS, NETS))


class NoPinTest(unittest.TestCase):
    def test_what_is_no_pin(self):
        drawing = Drawing(PARTS, NETS)
        first = drawn(drawing)
        for pin in [("r1", 2), ("r1", -1), ("r2", 0), ("t1", 3), ("t1", 8), ("", 0), ("in", 0), ("R1", 0), ("r1", 10 ** 40),
                    ("r1",), ("r1", 0, 0), (), (0, "r1"), (0, 0), None, 0, "r1", "r10", ["r1", 0], {}, ("r1", [0]),
                    (["r1"], 0)] + [("r1", number) for number in NO_NUMBERS]:
            with self.subTest(repr(pin)), self.assertRaises(NoPin):
                drawing.net_of(pin)
        self.assertEqual(drawn(drawing), first)


class RefusedTest(unittest.TestCase):
    def refused(self, parts, nets):
        before = copy.deepcopy((parts, nets))
        with self.subTest(repr((parts, nets))[:200]), self.assertRaises(NoDrawing):
            Drawing(parts, nets)
        self.assertEqual((parts, nets), before)

    def refused_part(self, *part):
        """A part by itself, and in each place of some, each time with a net for all pins that it could be meant to have."""
        pins = [(part[0], number) for number in range(8 if part[2] in (0, 9, -1) else 1)]
        self.refused([part], [("n", pins)])
        for at in range(4):
            self.refused(PARTS[:at] + [part] + PARTS[at:], NETS + [("n", pins)])

    def test_names_twice(self):
        self.refused([("a", "k", 1), ("a", "k", 1)], [("n", [("a", 0)])])
        self.refused([("a", "k", 1), ("a", "k", 1)], [("n", [("a", 0)]), ("m", [("a", 0)])])
        self.refused([("a", "k", 1), ("b", "k", 1), ("a", "l", 2)], [("n", [("a", 0), ("b", 0), ("a", 1)])])
        self.refused([("a", "k", 2)], [("n", [("a", 0)]), ("n", [("a", 1)])])
        self.refused([("a", "k", 3)], [("n", [("a", 0)]), ("m", [("a", 2)]), ("n", [("a", 1)])])
        for at, other in itertools.combinations(range(4), 2):
            nets = copy.deepcopy(NETS)
            nets[other] = (nets[at][0], nets[other][1])
            self.refused(PARTS, nets)

    def test_names_and_kinds_that_are_none(self):
        for name in NO_NAMES:
            self.refused_part(name, "k", 1)
            self.refused_part("a", name, 1)
            for at in range(4):
                self.refused(PARTS, NETS[:at] + [(name, NETS[at][1])] + NETS[at + 1:])

    def test_many_that_is_none(self):
        for many in [0, 9, 10, -1, -8, 64, 10 ** 40, -10 ** 40] + NO_NUMBERS:
            self.refused_part("a", "k", many)
            self.refused([("a", "k", many)], [])
            self.refused(PARTS + [("a", "k", many)], NETS)
        pins = [("a", number) for number in range(9)]
        self.refused([("a", "k", 9)], [("n", pins)])
        self.refused([("a", "k", 8)], [("n", pins)])

    def test_a_pin_in_no_net(self):
        for at, net in enumerate(NETS):
            for pin in net[1]:
                rest = [other for other in net[1] if other != pin]
                self.refused(PARTS, NETS[:at] + ([(net[0], rest)] if rest else []) + NETS[at + 1:])
        self.refused([("a", "k", 1)], [])
        self.refused(PARTS, [])
        self.refused(PARTS + [("x", "k", 1)], NETS)

    def test_a_pin_twice(self):
        for at, net in enumerate(NETS):
            for other in NETS:
                for pin in other[1]:
                    for spot in [0, len(net[1])]:
                        self.refused(PARTS, NETS[:at] + [(net[0], net[1][:spot] + [pin] + net[1][spot:])] + NETS[at + 1:])
        self.refused([("a", "k", 1)], [("n", [("a", 0), ("a", 0)])])
        self.refused([("a", "k", 2)], [("n", [("a", 0), ("a", 0)])])
        self.refused([("a", "k", 1)], [("n", [("a", 0)]), ("m", [("a", 0)])])

    def test_pins_that_are_none(self):
        wrong = [("x", 0), ("in", 0), ("r1", 2), ("r1", -1), ("t1", 3), ("r1", 8), ("r1", 10 ** 40), ("R1", 0), ("", 0),
                 ("r1",), ("r1", 0, 0), (), (0, "r1"), (0, 0), (None, 0), None, 0, "r1", "r10", ["r1", 0], {},
                 ("r1", [0]), (["r1"], 0)] + [("r1", number) for number in NO_NUMBERS]
        for pin in wrong:
            for at, net in enumerate(NETS):
                for spot in [0, len(net[1])]:
                    self.refused(PARTS, NETS[:at] + [(net[0], net[1][:spot] + [pin] + net[1][spot:])] + NETS[at + 1:])
            self.refused(PARTS, NETS + [("n", [pin])])
            self.refused(PARTS, NETS[1:] + [("in", [pin])])
        for number, truth in [(0, False), (1, True), (0, 0.0), (1, 1.0)]:
            pins = [("a", truth if number == at else at) for at in range(2)]
            self.refused([("a", "k", 2)], [("n", pins)])

    def test_a_net_without_pins(self):
        self.refused([], [("n", [])])
        for at in range(5):
            self.refused(PARTS, NETS[:at] + [("n", [])] + NETS[at:])

    def test_nine_parts(self):
        parts = [("p" + str(number), "k", 1) for number in range(9)]
        self.refused(parts, [("n", [(part[0], 0) for part in parts])])
        self.refused(parts, [(part[0], [(part[0], 0)]) for part in parts])
        parts.append(("x", "k", 1))
        self.refused(parts, [("n", [(part[0], 0) for part in parts])])

    def test_twenty_five_nets(self):
        for many in [25, 26, 64]:
            parts = [(name, "k", 8) for name in "abcdefgh"]
            pins = [(name, pin) for name in "abcdefgh" for pin in range(8)]
            self.refused(parts, [("n" + str(at), pins[at::many]) for at in range(many)])

    def test_what_is_no_part_and_no_net(self):
        for part in [("a", "k"), ("a", "k", 1, 1), ("a",), (), ["a", "k", 1], None, 0, "ak1", "a", {}, ("k", 1, "a")]:
            self.refused([part], [("n", [("a", 0)])])
            for at in range(4):
                self.refused(PARTS[:at] + [part] + PARTS[at:], NETS)
                self.refused(PARTS[:at] + [part] + PARTS[at:], NETS + [("n", [("a", 0)])])
        parts = PARTS + [("a", "k", 1)]
        for net in [("n",), ("n", [("a", 0)], 0), (), ["n", [("a", 0)]], None, 0, "n", {}, ([("a", 0)], "n"),
                    ("n", (("a", 0),)), ("n", ("a", 0)), ("n", None), ("n", 0), ("n", "a0"), ("n", {("a", 0): True})]:
            self.refused([("a", "k", 1)], [net])
            for at in range(5):
                self.refused(parts, NETS[:at] + [net] + NETS[at:])

    def test_what_is_no_list(self):
        for wrong in [None, 0, 1, True, "", "ak1", {}, {("a", "k", 1): True}]:
            self.refused(wrong, [])
            self.refused(wrong, [("n", [("a", 0)])])
            self.refused([], wrong)
            self.refused([("a", "k", 1)], wrong)


class OwnTest(unittest.TestCase):
    def test_pins_by_nets(self):
        drawing = Drawing([("b", "k", 2), ("a", "m", 2)], [("z", [("b", 1), ("a", 1), ("b", 0)]), ("m", [("a", 0)])])
        rows = [("z", [("a", 1), ("b", 0), ("b", 1)]), ("m", [("a", 0)])]
        self.assertEqual(list(drawing.net_pins().items()), rows)
        drawing.net_pins()["z"].clear()
        drawing.net_pins().clear()
        drawing.nets.clear()
        self.assertEqual(list(drawing.net_pins().items()), rows)

    def test_kinds_as_the_parts_stand(self):
        drawing = Drawing([("b", "k", 1), ("a", "m", 2)], [("n", [("a", 0), ("b", 0), ("a", 1)])])
        drawing.parts.reverse()
        self.assertEqual(list(drawing.kinds.items()), [("b", ("k", 1)), ("a", ("m", 2))])


class InterfaceTest(unittest.TestCase):
    def test_arguments(self):
        for ask, row in [(Drawing, "(parts, nets)"), (Drawing.pins, "(self)"), (Drawing.net_of, "(self, pin)")]:
            self.assertEqual(str(inspect.signature(ask)), row)


if __name__ == "__main__":
    unittest.main()
