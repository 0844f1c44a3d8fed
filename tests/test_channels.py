"""[28], and [2], [3] and [4] as far as they speak of channels."""

import copy
import inspect
import itertools
import random
import unittest

from copperbook.channels import lanes
from copperbook.errors import NoSpan


def named(pairs):
    """Spans from these lefts to these rights, with nets of unlike names that don't rise."""
    return [(f"n{len(pairs) - number}", left, right) for number, (left, right) in enumerate(pairs)]


def share(one, other):
    return one[1] <= other[2] and other[1] <= one[2]


def least_rows(spans):
    """The least number of rows, by all ways to put the spans into rows one behind the other."""
    def tried(rest, rows):
        if not rest:
            return len(rows)
        found = tried(rest[1:], [*rows, [rest[0]]])
        for at, row in enumerate(rows):
            if not any(share(rest[0], other) for other in row):
                found = min(found, tried(rest[1:], [*rows[:at], [*row, rest[0]], *rows[at + 1:]]))
        return found
    return tried(spans, [])


class Case(unittest.TestCase):
    def check(self, spans):
        """What is told, held against the document's words, and the spans handed in, held against themselves."""
        before = copy.deepcopy(spans)
        told = lanes(spans)
        self.assertEqual(spans, before)
        word, rows, column, nets = told
        self.assertEqual([word, type(told), type(rows), type(nets)], ["lanes", tuple, list, list])
        self.assertEqual({type(row) for row in rows}, {list} if spans else set())
        self.assertEqual(sorted(itertools.chain(*rows)), sorted(spans))
        self.assertNotIn([], rows)
        for row in rows:
            self.assertEqual([span[1] for span in row], sorted(span[1] for span in row))
            for one, other in itertools.combinations(row, 2):
                self.assertFalse(share(one, other), row)
        if spans:
            self.assertIs(type(column), int)
            self.assertEqual(nets, sorted(net for net, left, right in spans if left <= column <= right))
            self.assertEqual(len(nets), len(rows))
        return told


class LanesTest(Case):
    def test_no_spans(self):
        self.assertEqual(self.check([]), ("lanes", [], None, []))

    def test_one(self):
        for left, right in [(0, 0), (3, 9), (-5, -2), (-1, 1), (-10 ** 40, 10 ** 40), (10 ** 39, 10 ** 39)]:
            told = self.check([("n", left, right)])
            self.assertEqual(told[1], [[("n", left, right)]])
            self.assertEqual(told[3], ["n"])
            self.assertTrue(left <= told[2] <= right)

    def test_one_column_shared_at_an_end(self):
        told = self.check(named([(0, 3), (3, 5)]))
        self.assertEqual((len(told[1]), told[2], told[3]), (2, 3, ["n1", "n2"]))
        told = self.check(named([(3, 5), (0, 3)]))
        self.assertEqual((len(told[1]), told[2], told[3]), (2, 3, ["n1", "n2"]))
        self.assertEqual(len(self.check(named([(0, 2), (3, 5)]))[1]), 1)
        self.assertEqual(self.check(named([(3, 5), (0, 2)]))[1], [[("n1", 0, 2), ("n2", 3, 5)]])
        self.assertEqual(len(self.check(named([(-3, -3), (-3, -3), (-3, -3)]))[1]), 3)

    def test_one_within_another(self):
        told = self.check(named([(0, 9), (1, 8), (2, 7), (3, 6)]))
        self.assertEqual((len(told[1]), told[3]), (4, ["n1", "n2", "n3", "n4"]))
        self.assertEqual(len(self.check(named([(0, 9), (1, 2), (3, 4), (5, 6)]))[1]), 2)
        self.assertEqual(len(self.check(named([(5, 6), (3, 4), (0, 9), (1, 2)]))[1]), 2)

    def test_the_column_need_not_be_the_first_ones(self):
        told = self.check(named([(0, 1), (10, 20), (12, 13), (13, 30), (40, 50)]))
        self.assertEqual((len(told[1]), told[2]), (3, 13))
        told = self.check(named([(0, 9), (0, 2), (4, 5), (4, 8), (8, 9)]))
        self.assertEqual(len(told[1]), 3)

    def test_a_long_one_first_in_its_row(self):
        # Behind a span that ends late a row is shut, though ones ahead of it in the list ended early.
        self.assertEqual(len(self.check(named([(0, 1), (2, 100), (3, 4), (5, 6), (101, 102)]))[1]), 2)

    def test_the_nets_by_their_names(self):
        spans = [("b", 0, 5), ("a10", 1, 5), ("", 2, 5), ("a9", 3, 5), ("B", 4, 5), ("a b", 5, 5)]
        self.assertEqual(self.check(spans)[3], ["", "B", "a b", "a10", "a9", "b"])

    def test_sixty(self):
        for seed in range(40):
            chance = random.Random(seed)
            reach = [1, 5, 30, 10 ** 39][seed % 4]
            lefts = [chance.randint(-[3, 60, 10 ** 39][seed % 3], [3, 60, 10 ** 39][seed % 3]) for _ in range(60)]
            told = self.check(named([(left, left + chance.randint(0, reach)) for left in lefts]))
            self.assertGreaterEqual(len(told[1]), 1)
        self.assertEqual(len(self.check(named([(at, at + 1) for at in range(60)]))[1]), 2)
        self.assertEqual(len(self.check(named([(2 * at, 2 * at + 1) for at in range(60)]))[1]), 1)
        self.assertEqual(len(self.check(named([(at, 60) for at in range(60)]))[1]), 60)
        self.assertEqual(len(self.check(named([(-at, at) for at in range(60)]))[1]), 60)

    def test_somewhat_more_than_sixty(self):
        self.assertEqual(len(self.check(named([(at, at + 3) for at in range(75)]))[1]), 4)

    def test_no_fewer_rows(self):
        columns = [(left, right) for left in range(4) for right in range(left, 4)]
        for pairs in itertools.combinations_with_replacement(columns, 4):
            spans = named(pairs)
            random.Random(str(pairs)).shuffle(spans)
            self.assertEqual(len(self.check(spans)[1]), least_rows(spans))
        for seed in range(60):
            chance = random.Random(seed)
            lefts = [chance.randint(-4, 4) for _ in range(7)]
            spans = named([(left, left + chance.randint(0, 4)) for left in lefts])
            self.assertEqual(len(self.check(spans)[1]), least_rows(spans))

    def test_numbers_of_forty_figures(self):
        large = 10 ** 40 - 1
        told = self.check(named([(-large, -large), (-large, large - 1), (large, large), (large - 1, large)]))
        self.assertEqual(len(told[1]), 2)


class RefusedTest(unittest.TestCase):
    def refused(self, spans):
        before = copy.deepcopy(spans)
        with self.subTest(spans), self.assertRaises(NoSpan):
            lanes(spans)
        self.assertEqual(spans, before)

    def test_a_left_above_a_right(self):
        for left, right in [(1, 0), (0, -1), (-1, -2), (10 ** 40, 10 ** 40 - 1), (5, -5)]:
            self.refused([("n", left, right)])
            self.refused([("a", 0, 0), ("n", left, right), ("z", 3, 4)])
            self.refused([("n", left, right), ("a", 0, 0)])
            self.refused([("a", 0, 0), ("n", left, right)])

    def test_a_net_twice(self):
        self.refused([("n", 0, 1), ("n", 5, 6)])
        self.refused([("n", 0, 1), ("n", 0, 1)])
        self.refused([("n", 0, 1), ("m", 2, 3), ("o", 2, 9), ("n", 50, 60)])
        self.refused([("", 0, 1), ("", 2, 3)])

    def test_both(self):
        self.refused([("n", 1, 0), ("n", 1, 0)])
        self.refused([("n", 0, 1), ("n", 1, 0)])


class AgainTest(Case):
    def test_what_is_told_and_changed(self):
        spans = named([(0, 4), (2, 6), (5, 9)])
        same, told = lanes(spans), lanes(spans)
        for row in told[1]:
            row.clear()
        told[1].clear()
        told[3].append("x")
        self.assertEqual(lanes(spans), same)
        none = lanes([])
        none[1].append([])
        none[3].append("x")
        self.assertEqual(lanes([]), ("lanes", [], None, []))

    def test_spans_changed_later(self):
        spans = named([(0, 4), (2, 6)])
        told = lanes(spans)
        same = copy.deepcopy(told)
        spans.clear()
        self.assertEqual(told, same)


class InterfaceTest(unittest.TestCase):
    def test_arguments(self):
        self.assertEqual(str(inspect.signature(lanes)), "(spans)")


if __name__ == "__main__":
    unittest.main()
