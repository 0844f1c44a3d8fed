"""[12], and [2] as far as it speaks of pictures."""

import inspect
import itertools
import unittest

from copperbook.boards import Board
from copperbook.errors import NoPicture
from copperbook.pictures import picture, read_picture
from samples import every_board, told

FOUR = "board 4 2 1\n#.Oo\noO.#\n"
THREE = "board 3 2 3\n#.O\noO.\n..o\nOo#\n##O\noo.\n"
GOOD = [FOUR, THREE, "board 1 1 1\n#\n", "board 1 1 3\nO\no\nO\n", "board 2 1 2\n..\n##\n",
        "board 12 12 3\n" + "#.Oo#.Oo#.Oo\n" * 36, "board 12 1 1\n............\n", "board 1 12 2\n" + "#\n.\n" * 12]


def small_boards():
    for size in [(1, 1, 1), (2, 1, 1), (1, 2, 2), (2, 1, 2), (1, 1, 3), (2, 2, 1)]:
        yield from every_board(size)


class PictureTest(unittest.TestCase):
    def test_by_hand(self):
        board = Board(4, 2)
        self.assertEqual(picture(board), "board 4 2 1\n....\n....\n")
        board.put([(0, 0, 0), (2, 0, 0), (1, 1, 0), (3, 1, 0)])
        for hole in [(2, 0), (3, 0), (0, 1), (1, 1)]:
            board.drill(*hole)
        self.assertEqual(picture(board), FOUR)

    def test_layers_by_hand(self):
        board = Board(2, 1, 3)
        board.put([(0, 0, 0), (1, 0, 1), (0, 0, 2), (1, 0, 2)])
        board.drill(1, 0)
        self.assertEqual(picture(board), "board 2 1 3\n#o\n.O\n#O\n")

    def test_read_by_hand(self):
        self.assertEqual(told(read_picture(FOUR)), (4, 2, 1, [(0, 0, 0), (1, 1, 0), (2, 0, 0), (3, 1, 0)],
                                                    [(0, 1), (1, 1), (2, 0), (3, 0)]))
        self.assertEqual(told(read_picture("board 2 1 3\n#o\n.O\n#O\n")),
                         (2, 1, 3, [(0, 0, 0), (0, 0, 2), (1, 0, 1), (1, 0, 2)], [(1, 0)]))

    def test_pictures_are_read_back(self):
        for text in GOOD:
            board = read_picture(text)
            self.assertIs(type(board), Board)
            self.assertEqual(picture(board), text)

    def test_boards_are_read_back(self):
        texts = set()
        for board in small_boards():
            text = picture(board)
            self.assertNotIn(text, texts)
            texts.add(text)
            self.assertEqual(told(read_picture(text)), told(board))
            self.assertIs(read_picture(text).same_as(board), True)

    def test_just_the_texts_of_boards_are_pictures(self):
        pictures = {picture(board) for board in small_boards()}
        for head, shape in [("board 1 2 2\n", 4), ("board 1 1 3\n", 3)]:
            for signs in itertools.product("#.Oox", repeat=shape):
                text = head + "".join(sign + "\n" for sign in signs)
                if text in pictures:
                    self.assertEqual(picture(read_picture(text)), text)
                else:
                    with self.assertRaises(NoPicture):
                        read_picture(text)

    def test_a_board_that_was_pictured_or_read_goes_its_own_way(self):
        board = read_picture(THREE)
        kept = told(board)
        picture(board)
        self.assertEqual(told(board), kept)
        board.put([(1, 0, 0)])
        board.drill(0, 0)
        self.assertEqual(told(read_picture(THREE)), kept)
        self.assertIsNot(read_picture(THREE), read_picture(THREE))


class RefusedTest(unittest.TestCase):
    def refused(self, text):
        with self.subTest(repr(text)[:80]), self.assertRaises(NoPicture):
            read_picture(text)

    def test_what_is_no_text(self):
        for wrong in [None, 0, 1, True, b"board 1 1 1\n.\n", ["board 1 1 1", "."], Board(1, 1)]:
            self.refused(wrong)

    def test_empty_texts(self):
        for wrong in ["", "\n", "\n\n", " ", " \n"]:
            self.refused(wrong)

    def test_other_heads(self):
        for head in ["", "board", "board 2", "board 2 1", "board 2 1 1 1", "2 1 1", "boards 2 1 1", "Board 2 1 1",
                     "BOARD 2 1 1", "bord 2 1 1", " board 2 1 1", "board 2 1 1 ", "board  2 1 1", "board 2  1 1",
                     "board 2 1  1", "board\t2 1 1", "board 2\t1 1", "board 2,1,1", "block 2 1 1", "board two 1 1",
                     "board 2 1 one", "board 2x1 1", "board 2 1 1\t", "board 2 1 1\r"]:
            self.refused(head + "\n..\n")

    def test_other_numbers(self):
        for wrong in ["02", "002", "+2", "-2", "2.", "2.0", "2_", "0x2", "0", "-0", "00", ""]:
            self.refused(f"board {wrong} 1 1\n..\n")
            self.refused(f"board 1 {wrong} 1\n.\n.\n")
            self.refused(f"board 1 1 {wrong}\n.\n.\n")

    def test_measures_that_make_no_board(self):
        for text in ["board 0 1 1\n\n", "board 0 1 1\n", "board 1 0 1\n", "board 1 1 0\n", "board 0 0 0\n",
                     "board 13 1 1\n.............\n", "board 1 13 1\n" + ".\n" * 13, "board 1 1 4\n" + ".\n" * 4,
                     "board -1 1 1\n.\n", "board 1 -1 1\n", "board 1 1 -1\n", "board -1 -1 1\n.\n"]:
            self.refused(text)
        for large in ["9" * 9, "9" * 40, "1" + "0" * 40, "9" * 5000]:
            for head in [f"board {large} 1 1\n", f"board 1 {large} 1\n", f"board 1 1 {large}\n"]:
                self.refused(head)
                self.refused(head + ".\n")

    def test_rows_too_few_or_too_many(self):
        for text in GOOD:
            rows = text.splitlines(keepends=True)
            for at in range(1, len(rows)):
                self.refused("".join(rows[:at] + rows[at + 1:]))
                self.refused("".join(rows[:at] + rows[at:at + 1] + rows[at:]))
            self.refused("".join(rows[1:]))
            self.refused(rows[0])
            self.refused(text + text)
            self.refused(rows[0] + text)
        self.refused("board 2 2 1\n..\n..\n..\n..\n")
        self.refused("board 2 2 2\n..\n..\n")

    def test_rows_too_short_or_too_long(self):
        for text in GOOD:
            rows = text.splitlines()
            for at in range(1, len(rows)):
                for row in [rows[at][1:], rows[at][:-1], rows[at] + ".", rows[at] + "#", "." + rows[at], ""]:
                    self.refused("\n".join(rows[:at] + [row] + rows[at + 1:]) + "\n")
        self.refused("board 2 2 1\n.\n...\n")
        self.refused("board 3 2 1\n..\n..\n..\n")

    def test_other_signs(self):
        for text in [FOUR, THREE, "board 1 1 1\n#\n"]:
            head = text.index("\n") + 1
            for at in range(head, len(text)):
                for sign in " \t0Q@*,_x#.Oo\r":
                    if text[at] == "\n" or sign not in "#.Oo":
                        self.refused(text[:at] + sign + text[at + 1:])

    def test_line_ends_lacking_or_too_many(self):
        for text in GOOD:
            self.refused(text[:-1])
            self.refused(text + "\n")
            self.refused("\n" + text)
            self.refused(text.replace("\n", "\n\n"))
            self.refused(text.replace("\n", "\n\n", 1))
            self.refused(text.replace("\n", "", 1))
            self.refused(text.replace("\n", "\r\n"))
            self.refused(text.replace("\n", "\r"))
            self.refused(text.replace("\n", " "))
            self.refused(text + " ")
            self.refused(text + " \n")

    def test_a_hole_in_one_layer_and_none_in_another(self):
        for here, there in itertools.product("Oo", "#."):
            for signs in [here + there, there + here]:
                self.refused("board 1 1 2\n" + "".join(sign + "\n" for sign in signs))
            for signs in itertools.product([here, there], repeat=3):
                if len(set(signs)) == 2:
                    self.refused("board 1 1 3\n" + "".join(sign + "\n" for sign in signs))
        self.refused("board 2 1 2\nO.\n.O\n")
        self.refused("board 1 2 2\no\n.\n.\no\n")
        self.refused(THREE[:-2] + "o\n")


class InterfaceTest(unittest.TestCase):
    def test_arguments(self):
        self.assertEqual(str(inspect.signature(picture)), "(board)")
        self.assertEqual(str(inspect.signature(read_picture)), "(text)")


if __name__ == "__main__":
    unittest.main()
