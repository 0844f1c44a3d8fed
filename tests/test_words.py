"""[2] and [7]: whole numbers, numbers as figures, rows of words."""

import unittest

from copperbook.words import is_short, is_whole, read_lines, read_number, read_row, tell_lines, tell_row

NINES = "9" * 40


class WordsTest(unittest.TestCase):
    def test_whole_numbers_are_ints_that_are_no_truths(self):
        for value in [0, 1, -1, 10 ** 60]:
            self.assertIs(is_whole(value), True, value)
        for value in [True, False, None, "1", 1.0, [1], (1,)]:
            self.assertIs(is_whole(value), False, value)

    def test_short_numbers_have_at_most_forty_figures(self):
        for number in [0, 1, -1, 10 ** 39, int(NINES), -int(NINES)]:
            self.assertIs(is_short(number), True, number)
        for number in [10 ** 40, -10 ** 40, 10 ** 41]:
            self.assertIs(is_short(number), False, number)
        self.assertIs(is_short(10 ** 5000), False)

    def test_numbers_are_read(self):
        for number in [0, 1, 9, 10, 100, -1, -10, int(NINES), -int(NINES)]:
            self.assertEqual(read_number(str(number)), number)

    def test_other_words_are_no_numbers(self):
        words = ["", "-", "-0", "00", "01", "-01", "+1", "--1", "1-", "1_0", " 1", "1 ", "1\n", "\t1", "1.0", "0x1", "a"]
        for word in words + [NINES + "9", "-" + NINES + "9"]:
            self.assertIsNone(read_number(word), repr(word))

    def test_a_row_is_told_and_read(self):
        rows = [("gap", [2]), ("x", []), ("row", [0, -1, int(NINES)])]
        texts = ["gap 2", "x", "row 0 -1 " + NINES]
        for row, text in zip(rows, texts):
            self.assertEqual(tell_row(row[0], row[1]), text)
            self.assertEqual(read_row(text), row)

    def test_other_rows_are_none(self):
        for text in ["x  1", "x 1 ", "x 1\n", "x\t1 1\t", "x one", "x 1 +2", None, 3, b"x 1"]:
            self.assertIsNone(read_row(text), repr(text))

    def test_lines_are_told_and_read(self):
        for rows, text in [(["a"], "a\n"), (["a b", "", "c"], "a b\n\nc\n"), ([""], "\n"), (["a\r", "\tb"], "a\r\n\tb\n")]:
            self.assertEqual(tell_lines(rows), text)
            self.assertEqual(read_lines(text), rows)

    def test_other_texts_have_no_lines(self):
        for text in ["", "a", "a\nb", "a\n ", None, 3, b"a\n", ["a\n"]]:
            self.assertIsNone(read_lines(text), repr(text))


if __name__ == "__main__":
    unittest.main()
