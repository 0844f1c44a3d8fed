"""Breaks: where the copper of a board does not keep to rules."""

from copperbook.islands import homes
from copperbook.shapes import Block


def breaks(board, rules):
    """The sorted list of all breaks of the rules on a board."""
    found = gap_breaks(board, rules.gap)
    found.extend(keep_breaks(board, rules.kept))
    found.extend(rim_breaks(board, rules.rim))
    found.extend(width_breaks(board, rules.width))
    return sorted(found)


def gap_breaks(board, gap):
    """The list of each two cells of unlike islands that lie too near to one another."""
    home = homes(board)
    found = []
    for cell in home:
        for other in around(cell, gap):
            # Each two are met from both sides, and told from the lesser one's.
            if cell < other and other in home and home[cell] != home[other]:
                found.append(("gap", cell, other))
    return found


def keep_breaks(board, keeps):
    """The list of the cells of copper that lie in a keep."""
    return [("keep", cell) for cell in board.cells() if is_kept(cell, keeps)]


def rim_breaks(board, rim):
    """The list of the cells without copper too near to a hole through copper."""
    found = []
    for hole in board.holes():
        for z in range(board.layers):
            middle = hole + (z,)
            if middle in board.copper:
                found.extend([("rim", hole, cell) for cell in around(middle, rim) if cell not in board.copper])
    return found


def width_breaks(board, width):
    """The list of the cells of copper that lie in no square of copper of this width."""
    broad = {}
    for corner in board.cells():
        square = square_from(corner, width)
        if all([cell in board.copper for cell in square]):
            for cell in square:
                broad[cell] = True
    return [("width", cell) for cell in board.cells() if cell not in broad]


def around(cell, far):
    """The list of the cells of a layer, beyond the board's edge too, at most so far from a cell across and down."""
    return square_from((cell[0] - far, cell[1] - far, cell[2]), 2 * far + 1)


def square_from(corner, wide):
    """The list of the cells of a square, of which the corner is the least one."""
    return [place + (corner[2],) for place in Block(corner[0], corner[1], wide, wide).cells()]


def is_kept(cell, keeps):
    """Whether a cell lies in one of the keeps."""
    return any([in_keep(cell, keep) for keep in keeps])


def in_keep(cell, keep):
    """Whether a cell lies in a keep (x, y, wide, high, z)."""
    across = keep[0] <= cell[0] < keep[0] + keep[2]
    down = keep[1] <= cell[1] < keep[1] + keep[3]
    return across and down and cell[2] == keep[4]
