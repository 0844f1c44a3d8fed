"""[22] to [25], and [2] and [4] as far as they speak of drawings without names."""

import collections
import copy
import inspect
import itertools
import random
import unittest

from copperbook.alike import alike
from copperbook.drawings import Drawing
from samples import drawn, plain_drawing, renamed, rings, some_drawing


def marks_of(things):
    """The mark of each of these, a dict by (side, number)."""
    order = sorted(set(things.values()))
    return {key: order.index(thing) for key, thing in things.items()}


def rounds_by_words(drawings, held):
    """All rounds of marks, as the document says them: pairs of a dict of parts and a dict of nets."""
    names = [[part[0] for part in drawing.parts] for drawing in drawings]
    parts, nets = {}, {}
    for side, drawing in enumerate(drawings):
        pairs = [pair[side] for pair in held]
        for number, (_, kind, many) in enumerate(drawing.parts):
            parts[side, number] = (kind, many, pairs.index(number) + 1 if number in pairs else 0)
        for number, (_, pins) in enumerate(drawing.nets):
            nets[side, number] = len(pins)
    rounds = [(marks_of(parts), marks_of(nets))]
    while True:
        last_parts, last_nets = rounds[-1]
        parts, nets = {}, {}
        for side, drawing in enumerate(drawings):
            for number, (name, _, many) in enumerate(drawing.parts):
                ends = [[at for at, (_, pins) in enumerate(drawing.nets) if (name, pin) in pins] for pin in range(many)]
                parts[side, number] = (last_parts[side, number], tuple(last_nets[side, at] for [at] in ends))
            for number, (_, pins) in enumerate(drawing.nets):
                ends = sorted((last_parts[side, names[side].index(name)], pin) for name, pin in pins)
                nets[side, number] = (last_nets[side, number], tuple(ends))
        rounds.append((marks_of(parts), marks_of(nets)))
        if [len(set(marks.values())) for marks in rounds[-1]] == [len(set(marks.values())) for marks in rounds[-2]]:
            return rounds


def word_by_word(one, other, held=()):
    """What alike tells, as the document says it."""
    rounds = rounds_by_words((one, other), held)
    for number, stage in enumerate(rounds):
        for word, marks in zip(["part", "net"], stage):
            for mark in sorted(set(marks.values())):
                here, there = [sum(marks[key] == mark for key in marks if key[0] == side) for side in (0, 1)]
                if here != there:
                    return ("marks", number, word, mark, here, there)
    parts, nets = [[[marks[key] for key in sorted(marks) if key[0] == side] for side in (0, 1)] for marks in rounds[-1]]
    if len(set(parts[0])) == len(parts[0]):
        return ("same", [parts[1].index(mark) for mark in parts[0]], [nets[1].index(mark) for mark in nets[0]])
    least = min(mark for mark in parts[0] if parts[0].count(mark) > 1)
    p, rows = parts[0].index(least), []
    for q in [number for number, mark in enumerate(parts[1]) if mark == least]:
        told = word_by_word(one, other, (*held, (p, q)))
        if told[0] == "same":
            return told
        rows.append((q, told))
    return ("choice", p, rows)


def is_renaming(one, other, parts, nets):
    """Whether lists of numbers are a renaming of the one drawing to the other."""
    if sorted(parts) != list(range(len(other.parts))) or len(parts) != len(one.parts):
        return False
    if sorted(nets) != list(range(len(other.nets))) or len(nets) != len(one.nets):
        return False
    if any(part[1:] != other.parts[number][1:] for part, number in zip(one.parts, parts)):
        return False
    names = {part[0]: other.parts[number][0] for part, number in zip(one.parts, parts)}
    return all(sorted((names[name], pin) for name, pin in pins) == sorted(other.nets[number][1])
               for (_, pins), number in zip(one.nets, nets))


def some_renaming(one, other):
    """Whether there is a renaming, by all ways to number the parts."""
    if len(one.parts) != len(other.parts) or len(one.nets) != len(other.nets):
        return False
    groups = sorted(sorted(pins) for _, pins in other.nets)
    for parts in itertools.permutations(other.parts):
        names = {part[0]: goal[0] for part, goal in zip(one.parts, parts)}
        if [part[1:] for part in one.parts] == [part[1:] for part in parts]:
            if sorted(sorted((names[name], pin) for name, pin in pins) for _, pins in one.nets) == groups:
                return True
    return False


def leaves(told):
    """All that is told within choices."""
    if told[0] != "choice":
        return [told]
    return [leaf for _, row in told[2] for leaf in leaves(row)]


def depth(told):
    return 0 if told[0] != "choice" else 1 + max(depth(row) for _, row in told[2])


def matched(seed, parts, pins):
    """A drawing of parts of one kind with as many pins, each pin in a net with another one, or by itself."""
    chance = random.Random(seed)
    ends = [(part, pin) for part in range(parts) for pin in range(pins)]
    chance.shuffle(ends)
    return plain_drawing([("k", pins)] * parts, [ends[at:at + 2] for at in range(0, len(ends), 2)])


def chains(length, *ends):
    """A drawing of chains of parts with two pins, each with two letters as the kinds of its ends."""
    kinds, nets = [], []
    for left, right in ends:
        first = len(kinds)
        kinds += [(left, 2)] + [("k", 2)] * (length - 2) + [(right, 2)]
        nets += [[(first, 0)]] + [[(at, 1), (at + 1, 0)] for at in range(first, first + length - 1)]
        nets += [[(first + length - 1, 1)]]
    return plain_drawing(kinds, nets)


class Case(unittest.TestCase):
    def check(self, one, other):
        """What is told, held against the document's words, and what was handed in, held against itself."""
        before = copy.deepcopy((drawn(one), drawn(other)))
        told = alike(one, other)
        self.assertEqual(told, word_by_word(one, other))
        self.assertIs(type(told), tuple)
        if told[0] == "same":
            self.assertTrue(is_renaming(one, other, *told[1:]))
            self.assertEqual([type(part) for part in told[1:]], [list, list])
        self.assertEqual((drawn(one), drawn(other)), before)
        return told


class SameTest(Case):
    def test_no_parts(self):
        self.assertEqual(self.check(Drawing([], []), Drawing([], [])), ("same", [], []))

    def test_one_part(self):
        for many in range(1, 9):
            one = plain_drawing([("k", many)], [[(0, pin)] for pin in range(many)])
            other = plain_drawing([("k", many)], [[(0, pin)] for pin in reversed(range(many))])
            self.assertEqual(self.check(one, other), ("same", [0], list(reversed(range(many)))))

    def test_parts_and_nets_in_another_order(self):
        one = Drawing([("r", "res", 2), ("c", "cap", 2)],
                      [("in", [("r", 0)]), ("out", [("r", 1), ("c", 0)]), ("gnd", [("c", 1)])])
        other = Drawing([("x", "cap", 2), ("in", "res", 2)],
                        [("a", [("x", 0), ("in", 1)]), ("b", [("x", 1)]), ("c", [("in", 0)])])
        self.assertEqual(self.check(one, other), ("same", [1, 0], [2, 0, 1]))
        self.assertEqual(self.check(other, one), ("same", [1, 0], [1, 2, 0]))

    def test_names_count_for_nothing(self):
        one = Drawing([("a", "k", 1), ("b", "m", 1)], [("a", [("a", 0)]), ("b", [("b", 0)])])
        other = Drawing([("b", "k", 1), ("a", "m", 1)], [("b", [("b", 0)]), ("a", [("a", 0)])])
        self.assertEqual(self.check(one, other), ("same", [0, 1], [0, 1]))

    def test_drawings_renamed(self):
        for seed in range(60):
            one = some_drawing(seed, seed % 9, [24, 6, 3][seed % 3])
            other = renamed(one, seed)
            self.assertEqual(self.check(one, other)[0], "same")
            self.assertEqual(self.check(other, one)[0], "same")
            self.assertEqual(self.check(one, one)[0], "same")

    def test_rings_renamed(self):
        for lengths in [(8,), (4, 4), (1,) * 8, (2, 2, 2, 2), (3, 3, 2), (3, 1, 2), (5, 2, 1)]:
            for seed in range(4):
                self.assertEqual(self.check(rings(*lengths), renamed(rings(*lengths), seed))[0], "same")
                self.assertEqual(self.check(renamed(rings(*lengths), seed), rings(*lengths))[0], "same")

    def test_the_most_parts_pins_and_nets(self):
        pins = [(part, pin) for pin in range(8) for part in range(8)]
        for many in [1, 2, 8, 24]:
            one = plain_drawing([("k", 8)] * 8, [pins[at::many] for at in range(many)])
            self.assertEqual(self.check(one, renamed(one, many))[0], "same")

    def test_the_first_that_tells_the_same(self):
        parts, nets = [("k", 1)] * 3, [[(0, 0)], [(1, 0)], [(2, 0)]]
        self.assertEqual(self.check(plain_drawing(parts, nets), plain_drawing(parts, nets)),
                         ("same", [0, 1, 2], [0, 1, 2]))
        self.assertEqual(self.check(rings(1, 2), rings(2, 1)), ("same", [2, 0, 1], [2, 0, 1]))
        self.assertEqual(self.check(rings(2, 1), rings(1, 2)), ("same", [1, 2, 0], [1, 2, 0]))
        self.assertEqual(self.check(rings(3), rings(3)), ("same", [0, 1, 2], [0, 1, 2]))

    def test_a_part_beyond_those_held_goes_to_its_least_too(self):
        # Marks by pairs held: behind (0, 0) the second part has a lesser mark than the held one.
        parts, nets = [("k", 1)] * 4, [[(0, 0), (1, 0), (2, 0), (3, 0)]]
        self.assertEqual(self.check(plain_drawing(parts, nets), plain_drawing(parts, nets)), ("same", [0, 1, 2, 3], [0]))


class RoundNoughtTest(Case):
    def test_unlike_numbers_of_parts(self):
        empty, one = Drawing([], []), plain_drawing([("k", 1)], [[(0, 0)]])
        self.assertEqual(self.check(empty, one), ("marks", 0, "part", 0, 0, 1))
        self.assertEqual(self.check(one, empty), ("marks", 0, "part", 0, 1, 0))
        two = plain_drawing([("k", 1)] * 2, [[(0, 0), (1, 0)]])
        self.assertEqual(self.check(one, two), ("marks", 0, "part", 0, 1, 2))
        self.assertEqual(self.check(two, one), ("marks", 0, "part", 0, 2, 1))

    def test_unlike_kinds(self):
        one = plain_drawing([("a", 1), ("c", 1)], [[(0, 0)], [(1, 0)]])
        other = plain_drawing([("a", 1), ("b", 1)], [[(0, 0)], [(1, 0)]])
        self.assertEqual(self.check(one, other), ("marks", 0, "part", 1, 0, 1))
        self.assertEqual(self.check(other, one), ("marks", 0, "part", 1, 1, 0))

    def test_unlike_pins(self):
        one = plain_drawing([("k", 2), ("k", 2)], [[(0, 0), (0, 1), (1, 0), (1, 1)]])
        other = plain_drawing([("k", 1), ("k", 3)], [[(0, 0), (1, 1), (1, 0), (1, 2)]])
        self.assertEqual(self.check(one, other), ("marks", 0, "part", 0, 0, 1))
        self.assertEqual(self.check(other, one), ("marks", 0, "part", 0, 1, 0))

    def test_the_kind_goes_ahead_of_the_pins(self):
        one = plain_drawing([("b", 1), ("a", 2)], [[(0, 0), (1, 0), (1, 1)]])
        other = plain_drawing([("b", 1), ("a", 3)], [[(0, 0), (1, 0), (1, 1), (1, 2)]])
        self.assertEqual(self.check(one, other), ("marks", 0, "part", 0, 1, 0))
        third = plain_drawing([("b", 2), ("a", 2)], [[(0, 0), (1, 0), (1, 1), (0, 1)]])
        self.assertEqual(self.check(one, third), ("marks", 0, "part", 1, 1, 0))

    def test_unlike_nets(self):
        one = plain_drawing([("k", 3)], [[(0, 0), (0, 1), (0, 2)]])
        other = plain_drawing([("k", 3)], [[(0, 0), (0, 1)], [(0, 2)]])
        third = plain_drawing([("k", 3)], [[(0, 0)], [(0, 1)], [(0, 2)]])
        self.assertEqual(self.check(one, other), ("marks", 0, "net", 0, 0, 1))
        self.assertEqual(self.check(other, third), ("marks", 0, "net", 0, 1, 3))
        self.assertEqual(self.check(one, third), ("marks", 0, "net", 0, 0, 3))
        four = plain_drawing([("k", 4)], [[(0, 0)], [(0, 1), (0, 2), (0, 3)]])
        self.assertEqual(self.check(four, plain_drawing([("k", 4)], [[(0, 0)], [(0, 1)], [(0, 2), (0, 3)]])),
                         ("marks", 0, "net", 0, 1, 2))

    def test_a_greater_mark_alone(self):
        one = plain_drawing([("k", 7)], [[(0, 0)], [(0, 1), (0, 2)], [(0, 3), (0, 4), (0, 5), (0, 6)]])
        other = plain_drawing([("k", 7)], [[(0, 0)], [(0, 1), (0, 2), (0, 3)], [(0, 4), (0, 5), (0, 6)]])
        self.assertEqual(self.check(one, other), ("marks", 0, "net", 1, 1, 0))

    def test_parts_ahead_of_nets(self):
        one = plain_drawing([("k", 2), ("m", 1)], [[(0, 0)], [(0, 1)], [(1, 0)]])
        other = plain_drawing([("k", 2), ("n", 1)], [[(0, 0), (0, 1), (1, 0)]])
        self.assertEqual(self.check(one, other), ("marks", 0, "part", 1, 1, 0))
        self.assertEqual(self.check(other, one), ("marks", 0, "part", 1, 0, 1))


class LaterRoundTest(Case):
    def test_nets_in_round_1(self):
        parts = [("c", 1), ("c", 1), ("r", 1), ("r", 1)]
        one = plain_drawing(parts, [[(0, 0), (1, 0)], [(2, 0), (3, 0)]])
        other = plain_drawing(parts, [[(0, 0), (2, 0)], [(1, 0), (3, 0)]])
        self.assertEqual(self.check(one, other), ("marks", 1, "net", 0, 1, 0))
        self.assertEqual(self.check(other, one), ("marks", 1, "net", 0, 0, 1))

    def test_parts_in_round_1(self):
        one = plain_drawing([("a", 2), ("a", 2)], [[(0, 0)], [(0, 1), (1, 1)], [(1, 0)]])
        other = plain_drawing([("a", 2), ("a", 2)], [[(0, 0)], [(0, 1), (1, 0)], [(1, 1)]])
        self.assertEqual(self.check(one, other), ("marks", 1, "part", 0, 2, 1))
        self.assertEqual(self.check(other, one), ("marks", 1, "part", 0, 1, 2))

    def test_the_pins_count(self):
        one = plain_drawing([("k", 3)], [[(0, 0), (0, 1)], [(0, 2)]])
        other = plain_drawing([("k", 3)], [[(0, 0), (0, 2)], [(0, 1)]])
        self.assertEqual(self.check(one, other), ("marks", 1, "part", 0, 0, 1))
        ring = plain_drawing([("k", 2)] * 2, [[(0, 0), (1, 0)], [(0, 1), (1, 1)]])
        self.assertEqual(self.check(ring, rings(2)), ("marks", 1, "net", 0, 1, 0))

    def test_chains_told_apart_ever_later(self):
        # From a to b and from c to d, or from a to d and from c to b: news of the ends goes a net or a part a round.
        found = []
        for length in range(2, 5):
            told = self.check(chains(length, "ab", "cd"), chains(length, "ad", "cb"))
            self.assertEqual(told[4] + told[5], 1)
            found.append(told[:3])
        self.assertEqual(found, [("marks", 1, "net"), ("marks", 2, "part"), ("marks", 3, "net")])

    def test_rounds_and_words_met(self):
        met = collections.Counter()
        for seed in range(400):
            told = self.check(matched(seed, 5, 3), matched(seed + 1000, 5, 3))
            met.update(leaf[:3] if leaf[0] == "marks" else leaf[:1] for leaf in leaves(told))
        for row in [("marks", 1, "part"), ("marks", 1, "net"), ("marks", 2, "part")]:
            self.assertIn(row, met)


class ChoiceTest(Case):
    def test_two_parts(self):
        odd = ("marks", 1, "net", 0, 1, 0)
        self.assertEqual(self.check(rings(1, 1), rings(2)), ("choice", 0, [(0, odd), (1, odd)]))
        odd = ("marks", 1, "net", 0, 0, 1)
        self.assertEqual(self.check(rings(2), rings(1, 1)), ("choice", 0, [(0, odd), (1, odd)]))

    def test_one_within_another(self):
        told = self.check(rings(1, 1, 1), rings(2, 1))
        self.assertEqual(told[:2], ("choice", 0))
        self.assertEqual([(q, row[0]) for q, row in told[2]], [(0, "marks"), (1, "marks"), (2, "choice")])
        self.assertEqual(told[2][2][1][1], 1)
        self.assertEqual([q for q, _ in told[2][2][1][2]], [0, 1])
        self.assertEqual(depth(self.check(rings(1, 1, 1, 1, 1), rings(1, 1, 1, 2))), 4)

    def test_all_rings(self):
        many = {number: [lengths for size in range(1, number + 1)
                         for lengths in itertools.combinations_with_replacement(range(1, number + 1), size)
                         if sum(lengths) == number] for number in range(1, 6)}
        for number in many:
            for one, other in itertools.product(many[number], repeat=2):
                told = self.check(rings(*one), renamed(rings(*other), number))
                self.assertEqual(told[0], "same" if one == other else "choice")

    def test_eight_parts(self):
        self.assertEqual(self.check(rings(8), rings(4, 4))[0], "choice")
        self.assertEqual(self.check(rings(5, 3), rings(4, 4))[0], "choice")
        told = alike(rings(*[1] * 8), rings(*[1] * 6, 2))
        self.assertEqual(len(leaves(told)), 2 * sum(720 // factor for factor in [720, 120, 24, 6, 2, 1, 1]))
        self.assertEqual({leaf[0] for leaf in leaves(told)}, {"marks"})
        self.assertEqual(depth(told), 7)

    def test_the_least_mark_that_several_have(self):
        # Kinds by which single parts go ahead, between and behind; of each kind with several the first one is held.
        one = plain_drawing([("z", 1), ("m", 2), ("d", 2), ("a", 1), ("d", 2), ("m", 2)],
                            [[(0, 0)], [(1, 0), (1, 1)], [(2, 0), (2, 1)], [(3, 0)], [(4, 0), (4, 1)], [(5, 0), (5, 1)]])
        other = plain_drawing([("m", 2), ("d", 2), ("a", 1), ("m", 2), ("d", 2), ("z", 1)],
                              [[(0, 0), (3, 1)], [(0, 1), (3, 0)], [(1, 0), (1, 1)], [(4, 0), (4, 1)], [(2, 0)],
                               [(5, 0)]])
        told = self.check(one, other)
        self.assertEqual(told[:2], ("choice", 2))
        self.assertEqual([q for q, _ in told[2]], [1, 4])
        self.assertEqual([row[:2] for _, row in told[2]], [("choice", 1)] * 2)
        self.assertEqual([[q for q, _ in row[2]] for _, row in told[2]], [[0, 3]] * 2)
        self.assertEqual(self.check(one, renamed(one, 3))[0], "same")

    def test_pairs_held_count_from_1(self):
        # In the second pair a part has 2, which parts it from the first one's by a mark.
        told = self.check(rings(1, 1, 1, 1), rings(2, 1, 1))
        within = dict(told[2])[2]
        self.assertEqual(within[:2], ("choice", 1))
        self.assertEqual([q for q, _ in within[2]], [0, 1, 3])
        for q, row in within[2]:
            self.assertEqual(row, word_by_word(rings(1, 1, 1, 1), rings(2, 1, 1), ((0, 2), (1, q))))

    def test_a_choice_ahead_of_the_same(self):
        # The first parts tried tell a choice or marks, but what is told is the same of the first that does.
        one, other = rings(1, 2, 2), rings(2, 2, 1)
        self.assertEqual(self.check(one, other), ("same", [4, 0, 1, 2, 3], [4, 0, 1, 2, 3]))
        one, other = rings(3, 1, 1), rings(1, 1, 3)
        self.assertEqual(self.check(one, other)[0], "same")


class RenamingTest(Case):
    def test_same_just_where_there_is_a_renaming(self):
        found = collections.Counter()
        for seed in range(300):
            parts, pins = [(2, 2), (3, 2), (4, 2), (3, 3), (5, 1), (4, 3)][seed % 6]
            one, other = matched(seed, parts, pins), matched(seed + 500, parts, pins)
            told = self.check(one, other)
            self.assertEqual(told[0] == "same", some_renaming(one, other))
            found[told[0]] += 1
        for seed in range(200):
            one, other = some_drawing(seed, 3, 4), some_drawing(seed + 1, 3, 4)
            self.assertEqual(self.check(one, other)[0] == "same", some_renaming(one, other))
        self.assertEqual(sorted(found), ["choice", "marks", "same"])

    def test_all_small_drawings(self):
        pins = [(0, 0), (0, 1), (1, 0), (1, 1)]
        groups = []
        for numbers in itertools.product(range(4), repeat=4):
            if list(dict.fromkeys(numbers)) == list(range(len(set(numbers)))):
                groups.append([[pin for pin, at in zip(pins, numbers) if at == net] for net in sorted(set(numbers))])
        self.assertEqual(len(groups), 15)
        for kinds in ["kk", "km"]:
            drawings = [plain_drawing([(kind, 2) for kind in kinds], nets) for nets in groups]
            for one, other in itertools.product(drawings, repeat=2):
                self.assertEqual(self.check(one, other)[0] == "same", some_renaming(one, other))

    def test_a_pin_changed(self):
        for seed in range(40):
            one = some_drawing(seed, 4, 6)
            names = [pin for _, pins in one.nets for pin in pins]
            left, right = random.Random(seed).sample(names, 2)
            swap = {left: right, right: left}
            other = Drawing(one.parts, [(name, [swap.get(pin, pin) for pin in pins]) for name, pins in one.nets])
            self.assertEqual(self.check(one, renamed(other, seed))[0] == "same", some_renaming(one, other))


class AgainTest(Case):
    def test_what_is_told_and_changed(self):
        one, other = rings(1, 2), rings(2, 1)
        same = alike(one, other)
        told = alike(one, other)
        told[1].clear()
        told[2].append(9)
        self.assertEqual(alike(one, other), same)
        odd = alike(rings(1, 1), rings(2))
        told = alike(rings(1, 1), rings(2))
        told[2].clear()
        self.assertEqual(alike(rings(1, 1), rings(2)), odd)
        self.assertEqual((drawn(one), drawn(other)), (drawn(rings(1, 2)), drawn(rings(2, 1))))

    def test_lists_handed_in_and_told_are_changed_later(self):
        parts, nets = [("a", "k", 1), ("b", "m", 1)], [("n", [("a", 0)]), ("o", [("b", 0)])]
        one = Drawing(parts, nets)
        other = Drawing([("x", "m", 1), ("y", "k", 1)], [("n", [("x", 0)]), ("o", [("y", 0)])])
        for rows in [parts, nets[0][1], nets, one.parts, one.nets[0][1], one.nets]:
            rows.reverse()
            self.assertEqual(alike(one, other), ("same", [1, 0], [1, 0]))
            self.assertEqual(alike(other, one), ("same", [1, 0], [1, 0]))
            rows.clear()
            self.assertEqual(alike(one, other), ("same", [1, 0], [1, 0]))
            self.assertEqual(alike(other, one), ("same", [1, 0], [1, 0]))

    def test_asked_again(self):
        drawings = [matched(seed, 4, 2) for seed in range(5)]
        asks = list(itertools.product(drawings, repeat=2))
        first = [alike(*ask) for ask in asks]
        self.assertEqual([alike(*ask) for ask in reversed(asks)], first[::-1])


class InterfaceTest(unittest.TestCase):
    def test_arguments(self):
        self.assertEqual(str(inspect.signature(alike)), "(one, other)")


if __name__ == "__main__":
    unittest.main()
