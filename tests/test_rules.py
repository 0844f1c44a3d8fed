"""[17], and [2] and [3] as far as they speak of rules."""

import inspect
import itertools
import unittest

from copperbook.errors import NoRules
from copperbook.rules import Rules, read_rules

NINES = "9" * 40
FAR = int(NINES)  # the greatest number of 40 figures
NO_NUMBERS = [True, False, None, "1", "", 1.0, [1], (1,)]
KEEP = (0, 1, 2, 3, 0)
KEEPS = [[], [KEEP], [KEEP, KEEP], [(5, 4, 1, 1, 2), (0, 0, 12, 12, 0)], [(FAR, FAR, FAR, FAR, FAR)],
         [(0, 0, 1, 1, 0)], [(k, 2 * k, k + 1, 12 - k, k % 3) for k in range(12)]]
PLAIN = "gap 1\nwidth 2\nrim 0\n"
FULL = "gap 1\nwidth 2\nrim 0\nkeep 0 1 2 3 0\nkeep 10 0 1 1 2\n"


def text_of(gap, width, rim, keeps):
    rows = [f"gap {gap}", f"width {width}", f"rim {rim}"]
    rows += ["keep " + " ".join(map(str, keep)) for keep in keeps]
    return "".join(row + "\n" for row in rows)


class RulesTest(unittest.TestCase):
    def test_by_hand(self):
        rules = Rules(1, 2, 0, [(0, 1, 2, 3, 0), (10, 0, 1, 1, 2)])
        self.assertEqual((rules.gap, rules.width, rules.rim), (1, 2, 0))
        self.assertEqual(rules.keeps, [(0, 1, 2, 3, 0), (10, 0, 1, 1, 2)])
        self.assertEqual(rules.told(), FULL)
        self.assertEqual(Rules(1, 2, 0, []).told(), PLAIN)
        self.assertEqual(Rules(0, 1, 1, []).told(), "gap 0\nwidth 1\nrim 1\n")

    def test_all_numbers_and_some_keeps(self):
        for gap, width, rim, keeps in itertools.product([0, 1, 2], [1, 2, 3], [0, 1], KEEPS):
            text = text_of(gap, width, rim, keeps)
            for rules in [Rules(gap, width, rim, list(keeps)), read_rules(text)]:
                self.assertIs(type(rules), Rules)
                self.assertEqual((rules.gap, rules.width, rules.rim, rules.keeps), (gap, width, rim, keeps))
                self.assertIs(type(rules.keeps), list)
                self.assertEqual([type(keep) for keep in rules.keeps], [tuple] * len(keeps))
                self.assertEqual(rules.told(), text)

    def test_read_by_hand(self):
        rules = read_rules(FULL)
        self.assertEqual((rules.gap, rules.width, rules.rim), (1, 2, 0))
        self.assertEqual(rules.keeps, [(0, 1, 2, 3, 0), (10, 0, 1, 1, 2)])
        self.assertEqual(read_rules(PLAIN).keeps, [])

    def test_numbers_of_forty_figures(self):
        for at in range(5):
            for number in [FAR, 10 ** 39]:
                keep = list(KEEP)
                keep[at] = number
                text = text_of(0, 1, 0, [keep])
                self.assertEqual(read_rules(text).keeps, [tuple(keep)])
                self.assertEqual(Rules(0, 1, 0, [tuple(keep)]).told(), text)

    def test_by_name(self):
        self.assertEqual(Rules(keeps=[KEEP], rim=1, width=3, gap=2).told(), "gap 2\nwidth 3\nrim 1\nkeep 0 1 2 3 0\n")


class KeptTest(unittest.TestCase):
    def test_keeps_handed_in_are_not_changed_and_not_kept(self):
        keeps = [(5, 4, 1, 1, 2), KEEP]
        rules = Rules(1, 2, 0, keeps)
        text = rules.told()
        self.assertIsNot(rules.keeps, keeps)
        self.assertEqual(keeps, [(5, 4, 1, 1, 2), KEEP])
        keeps.append(KEEP)
        keeps[0] = (1, 1, 1, 1, 1)
        self.assertEqual((rules.keeps, rules.told()), ([(5, 4, 1, 1, 2), KEEP], text))
        keeps.clear()
        self.assertEqual((rules.keeps, rules.told()), ([(5, 4, 1, 1, 2), KEEP], text))

    def test_keeps_told_and_changed_change_nothing_else(self):
        rules, other = Rules(1, 2, 0, [KEEP]), Rules(1, 2, 0, [KEEP])
        text = rules.told()
        rules.keeps.append((9, 9, 9, 9, 9))
        self.assertEqual(rules.told(), text)
        self.assertEqual(other.keeps, [KEEP])

    def test_rules_of_one_list_go_their_own_ways(self):
        keeps = [KEEP]
        one, other = Rules(0, 1, 0, keeps), Rules(0, 1, 0, keeps)
        one.keeps.clear()
        self.assertEqual((other.keeps, keeps), ([KEEP], [KEEP]))


class RefusedTest(unittest.TestCase):
    def refused(self, *given):
        with self.subTest(repr(given)[:80]), self.assertRaises(NoRules):
            Rules(*given)

    def refused_text(self, text):
        with self.subTest(repr(text)[:120]), self.assertRaises(NoRules):
            read_rules(text)

    def test_numbers_beyond_their_bounds(self):
        for keeps in [[], [KEEP]]:
            for gap in [-1, 3, 4, FAR, -FAR] + NO_NUMBERS:
                self.refused(gap, 1, 0, keeps)
            for width in [0, -1, 4, 5, FAR, -FAR] + NO_NUMBERS:
                self.refused(0, width, 0, keeps)
            for rim in [-1, 2, 3, FAR, -FAR] + NO_NUMBERS:
                self.refused(0, 1, rim, keeps)

    def test_thirteen_keeps(self):
        self.assertEqual(len(Rules(0, 1, 0, [KEEP] * 12).keeps), 12)
        for many in [13, 14, 40]:
            self.refused(0, 1, 0, [KEEP] * many)
            self.refused_text(text_of(0, 1, 0, [KEEP] * many))
        self.assertEqual(read_rules(text_of(0, 1, 0, [KEEP] * 12)).keeps, [KEEP] * 12)

    def test_keeps_that_are_not_five_such_numbers(self):
        wrong = [(), (0,), (0, 0, 1, 1), (0, 0, 1, 1, 0, 0), [0, 0, 1, 1, 0], None, 0, "00110"]
        for at in range(5):
            for number in [-1, -FAR, FAR + 1, 10 ** 60, -10 ** 60] + NO_NUMBERS + ([0] if at in (2, 3) else []):
                keep = list(KEEP)
                keep[at] = number
                wrong.append(tuple(keep))
        for keep in wrong:
            self.refused(0, 1, 0, [keep])
            self.refused(0, 1, 0, [KEEP, keep])
            self.refused(0, 1, 0, [keep, KEEP])
            self.refused(0, 1, 0, [KEEP] * 5 + [keep] + [KEEP] * 6)

    def test_very_long_numbers(self):
        for number in [10 ** 5000, -10 ** 5000]:
            for given in [(number, 1, 0, []), (0, number, 0, []), (0, 1, number, []),
                          (0, 1, 0, [(0, number, 1, 1, 0)]), (0, 1, 0, [(0, 0, 1, number, 0)])]:
                with self.assertRaises(NoRules):
                    Rules(*given)

    def test_what_is_no_list_of_keeps(self):
        for keeps in [None, 0, True, "", KEEP, (KEEP,), {}]:
            self.refused(0, 1, 0, keeps)

    def test_what_is_no_text(self):
        for wrong in [None, 0, True, b"gap 1\nwidth 2\nrim 0\n", ["gap 1", "width 2", "rim 0"]]:
            self.refused_text(wrong)

    def test_texts_beyond_the_bounds(self):
        for gap in ["-1", "3", "4", "10", NINES]:
            self.refused_text(text_of(gap, 1, 0, []))
        for width in ["0", "-1", "4", "12", NINES]:
            self.refused_text(text_of(0, width, 0, []))
        for rim in ["-1", "2", "3", "10", NINES]:
            self.refused_text(text_of(0, 1, rim, []))
        for at in range(5):
            for number in ["-1", "-" + NINES, NINES + "9", "1" + "0" * 40, "9" * 5000] + (["0"] if at in (2, 3) else []):
                keep = list(KEEP)
                keep[at] = number
                self.refused_text(text_of(0, 1, 0, [keep]))
                self.refused_text(text_of(0, 1, 0, [KEEP, keep, KEEP]))

    def test_numbers_that_are_none(self):
        for wrong in ["", "00", "01", "-0", "+1", "1.", "1.0", "1_0", "0x1", "a", "-", "1,", "True"]:
            rows = FULL.splitlines()
            for at, row in enumerate(rows):
                words = row.split(" ")
                for spot in range(1, len(words)):
                    changed = " ".join(words[:spot] + [wrong] + words[spot + 1:])
                    self.refused_text("\n".join(rows[:at] + [changed] + rows[at + 1:]) + "\n")

    def test_rows_in_another_order(self):
        rows = FULL.splitlines(keepends=True)
        for order in itertools.permutations(rows):
            text = "".join(order)
            if list(order[:3]) == rows[:3]:
                self.assertEqual(read_rules(text).told(), text)
            else:
                self.refused_text(text)

    def test_rows_left_out_or_twice(self):
        rows = FULL.splitlines(keepends=True)
        for at in range(3):
            self.refused_text("".join(rows[:at] + rows[at + 1:]))
            self.refused_text("".join(rows[:at] + [rows[at]] + rows[at:]))
            self.refused_text("".join(rows + [rows[at]]))
            self.refused_text("".join(rows[:3] + [rows[at]]))
        for many in [0, 1, 2]:
            self.refused_text("".join(rows[:many]))
        self.refused_text("".join(rows[3:]))
        self.refused_text(FULL + FULL)
        self.refused_text(PLAIN + PLAIN)

    def test_numbers_too_few_or_too_many(self):
        for text in ["gap\nwidth 2\nrim 0\n", "gap 1 1\nwidth 2\nrim 0\n", "gap 1\nwidth\nrim 0\n",
                     "gap 1\nwidth 2 2\nrim 0\n", "gap 1\nwidth 2\nrim\n", "gap 1\nwidth 2\nrim 0 0\n",
                     PLAIN + "keep\n", PLAIN + "keep 0 0 1 1\n", PLAIN + "keep 0 0 1 1 0 0\n",
                     PLAIN + "keep 0 0 1 1 0 keep 0 0 1 1 0\n"]:
            self.refused_text(text)

    def test_blanks_too_many(self):
        for at, sign in enumerate(FULL):
            for blank in [" ", "\t"]:
                if sign == " ":
                    self.refused_text(FULL[:at] + blank + FULL[at:])
                if sign == "\n":
                    self.refused_text(FULL[:at] + blank + FULL[at:])
                    self.refused_text(FULL[:at + 1] + blank + FULL[at + 1:])
            if sign == " ":
                self.refused_text(FULL[:at] + "\t" + FULL[at + 1:])
                self.refused_text(FULL[:at] + FULL[at + 1:])
        self.refused_text(" " + FULL)

    def test_line_ends_lacking_or_too_many(self):
        for text in [PLAIN, FULL]:
            for at, sign in enumerate(text):
                if sign == "\n":
                    self.refused_text(text[:at] + text[at + 1:])
                    self.refused_text(text[:at] + "\n" + text[at:])
                    self.refused_text(text[:at] + " " + text[at + 1:])
                    self.refused_text(text[:at] + "\r" + text[at:])
            self.refused_text("\n" + text)
        for text in ["", "\n", "\n\n\n", " "]:
            self.refused_text(text)

    def test_other_words(self):
        for word, others in [("gap", ["Gap", "GAP", "gaps", "ga", "", "width"]), ("width", ["wide", "Width", "rim"]),
                             ("rim", ["rims", "Rim", "gap"]), ("keep", ["keeps", "Keep", "kee", "", "block", "rim"])]:
            for other in others:
                self.refused_text(FULL.replace(word, other))
                self.refused_text(FULL.replace(word, other, 1))
        self.refused_text(PLAIN + "hole 0 0 1 1 0\n")
        self.refused_text(PLAIN + "end\n")
        self.refused_text("rules\n" + PLAIN)


class InterfaceTest(unittest.TestCase):
    def test_arguments(self):
        self.assertEqual(str(inspect.signature(Rules)), "(gap, width, rim, keeps)")
        self.assertEqual(str(inspect.signature(Rules.told)), "(self)")
        self.assertEqual(str(inspect.signature(read_rules)), "(text)")


if __name__ == "__main__":
    unittest.main()
