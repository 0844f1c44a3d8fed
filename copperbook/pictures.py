"""Pictures: boards as texts."""

from copperbook.boards import Board
from copperbook.errors import NoBoard, NoPicture
from copperbook.words import read_lines, read_row, tell_lines, tell_row

COPPER_SIGNS = "#O"
HOLE_SIGNS = "Oo"


def picture(board):
    """The picture of a board."""
    rows = [tell_row("board", [board.wide, board.high, board.layers])]
    for z in range(board.layers):
        for y in range(board.high):
            rows.append("".join([sign_at(board, x, y, z) for x in range(board.wide)]))
    return tell_lines(rows)


def sign_at(board, x, y, z):
    """The sign of a cell in a picture."""
    if board.has_hole(x, y):
        return "O" if board.is_copper(x, y, z) else "o"
    return "#" if board.is_copper(x, y, z) else "."


def read_picture(text):
    """The board of a picture."""
    rows = read_lines(text)
    if rows is None:
        raise NoPicture("a picture is a text of rows, each with a line end behind it")
    board = read_head(rows[0])
    signs = rows[1:]
    if [len(row) for row in signs] != [board.wide] * (board.high * board.layers):
        raise NoPicture("a picture has a row of signs for each row of squares in each layer")
    for number, row in enumerate(signs):
        draw_row(board, row, number % board.high, number // board.high)
    # Another sign, or a hole that goes through some layers alone, is lost on the board, so its picture differs.
    if picture(board) != text:
        raise NoPicture("a picture has the signs # . O o alone, and the same holes in each layer")
    return board


def read_head(row):
    """The empty board that a picture's first row tells."""
    head = read_row(row)
    if head is None or head[0] != "board" or len(head[1]) != 3:
        raise NoPicture("a picture begins with board WIDE HIGH LAYERS")
    numbers = head[1]
    try:
        return Board(numbers[0], numbers[1], numbers[2])
    except NoBoard:
        raise NoPicture("a picture's numbers are those of a board") from None


def draw_row(board, row, y, z):
    """Puts the copper and the holes of a row of signs on the board."""
    for x, sign in enumerate(row):
        if sign in COPPER_SIGNS:
            board.put([(x, y, z)])
        if sign in HOLE_SIGNS:
            board.drill(x, y)
