"""Islands: copper that hangs together, and walks on it."""

from copperbook.errors import NoCopper


def near(board, cell):
    """The sorted neighbours of a cell of copper."""
    need_copper(board, cell)
    return neighbours(board, cell)


def islands(board):
    """The list of all islands, each a sorted list of cells, by their least cells."""
    found = []
    seen = {}
    # By rising cells, so that each island is first met at its least one.
    for cell in board.cells():
        if cell not in seen:
            island = sorted(spread(board, cell))
            found.append(island)
            for part in island:
                seen[part] = True
    return found


def homes(board):
    """A dict from each cell of copper to the least cell of its island, by which islands are told apart."""
    least = {}
    for island in islands(board):
        for cell in island:
            least[cell] = island[0]
    return least


def island_of(board, cell):
    """The island with this cell, a sorted list."""
    need_copper(board, cell)
    return sorted(spread(board, cell))


def walk(board, one, other):
    """A list of neighbours from the one cell to the other, as short as can be, or None between two islands."""
    need_copper(board, one)
    need_copper(board, other)
    # Spread from the goal, so that going back leads from the one to the other.
    back = spread(board, other)
    if one not in back:
        return None
    cells = [one]
    while cells[-1] != other:
        cells.append(back[cells[-1]])
    return cells


def spread(board, start):
    """A dict from each cell of the start's island to the next cell of a shortest way to the start."""
    back = {start: None}
    edge = [start]
    while edge:
        farther = []
        for cell in edge:
            for other in neighbours(board, cell):
                if other not in back:
                    back[other] = cell
                    farther.append(other)
        edge = farther
    return back


def neighbours(board, cell):
    """The sorted cells of copper beside a cell, and over and under it at a hole."""
    spots = beside(cell)
    if board.has_hole(cell[0], cell[1]):
        spots.extend(over_and_under(cell, board.layers))
    return sorted([spot for spot in spots if board.is_copper(spot[0], spot[1], spot[2])])


def beside(cell):
    """The list of the four cells beside a cell in its layer, beyond the board's edge too."""
    x = cell[0]
    y = cell[1]
    z = cell[2]
    return [(x - 1, y, z), (x + 1, y, z), (x, y - 1, z), (x, y + 1, z)]


def over_and_under(cell, layers):
    """The list of the cells at a cell's square in all other ones of so many layers."""
    return [(cell[0], cell[1], z) for z in range(layers) if z != cell[2]]


def need_copper(board, cell):
    """Refuses a cell that is no copper of the board."""
    if not board.has_cell(cell) or not board.is_copper(cell[0], cell[1], cell[2]):
        raise NoCopper("the cell is no copper")
