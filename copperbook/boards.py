"""Boards: copper in the cells of some layers, and holes."""

from copperbook.errors import NoBoard, NoPlace
from copperbook.words import is_whole

MOST_WIDE = 12
MOST_HIGH = 12
MOST_LAYERS = 3


class Board:
    """A board of wide by high squares in some layers, with its copper and its holes."""

    def __init__(self, wide, high, layers=1):
        need_measure(wide, MOST_WIDE)
        need_measure(high, MOST_HIGH)
        need_measure(layers, MOST_LAYERS)
        self.wide = wide
        self.high = high
        self.layers = layers
        # Dicts of True, by cells and by squares.
        self.copper = {}
        self.drilled = {}

    def lay(self, shape, z=0):
        """Makes copper of the cells of a shape in a layer."""
        self.put(self.shape_cells(shape, z))

    def clear(self, shape, z=0):
        """Takes copper from the cells of a shape in a layer."""
        self.take(self.shape_cells(shape, z))

    def put(self, cells):
        """Makes copper of these cells."""
        self.need_cells(cells)
        for cell in cells:
            self.copper[cell] = True

    def take(self, cells):
        """Takes copper from these cells."""
        self.need_cells(cells)
        for cell in cells:
            self.copper.pop(cell, None)

    def drill(self, x, y):
        """Makes a hole."""
        self.need_square(x, y)
        self.drilled[(x, y)] = True

    def plug(self, x, y):
        """Takes a hole away."""
        self.need_square(x, y)
        self.drilled.pop((x, y), None)

    def is_copper(self, x, y, z=0):
        """Whether a cell is copper."""
        # A truth would be found among the keys as the number that it equals, so the cell is looked at first.
        return self.has_cell((x, y, z)) and (x, y, z) in self.copper

    def has_hole(self, x, y):
        """Whether there is a hole at a square."""
        return self.has_square(x, y) and (x, y) in self.drilled

    def same_as(self, other):
        """Whether another board has the same measures, copper and holes."""
        if (self.wide, self.high, self.layers) != (other.wide, other.high, other.layers):
            return False
        return self.copper == other.copper and self.drilled == other.drilled

    def cells(self, z=None):
        """The sorted list of all copper, or of that of one layer."""
        if z is None:
            return sorted(self.copper)
        if not self.has_layer(z):
            return []
        return sorted([cell for cell in self.copper if cell[2] == z])

    def holes(self):
        """The sorted list of the holes."""
        return sorted(self.drilled)

    def copy(self):
        """A board by itself, like this one."""
        return self.redrawn(self.wide, self.high, lambda x, y: (x, y))

    def turned(self):
        """A new board, this one by a quarter: each square (x, y) at (high - 1 - y, x)."""
        return self.redrawn(self.high, self.wide, lambda x, y: (self.high - 1 - y, x))

    def mirrored(self):
        """A new board, with each square (x, y) of this one at (wide - 1 - x, y)."""
        return self.redrawn(self.wide, self.high, lambda x, y: (self.wide - 1 - x, y))

    def redrawn(self, wide, high, place):
        """A new board of this size, with each square (x, y) of this one at place(x, y)."""
        other = Board(wide, high, self.layers)
        other.put([place(x, y) + (z,) for x, y, z in self.cells()])
        for hole in [place(x, y) for x, y in self.holes()]:
            other.drill(hole[0], hole[1])
        return other

    def has_layer(self, z):
        """Whether the board has a layer."""
        return is_whole(z) and 0 <= z < self.layers

    def has_square(self, x, y):
        """Whether the board has a square."""
        return is_whole(x) and is_whole(y) and 0 <= x < self.wide and 0 <= y < self.high

    def has_cell(self, cell):
        """Whether the board has a cell, copper or not."""
        if not isinstance(cell, tuple) or len(cell) != 3:
            return False
        return self.has_square(cell[0], cell[1]) and self.has_layer(cell[2])

    def need_square(self, x, y):
        """Refuses a square beyond the board."""
        if not self.has_square(x, y):
            raise NoPlace("a hole lies on the board")

    def need_cells(self, cells):
        """Refuses cells of which one lies beyond the board."""
        for cell in cells:
            if not self.has_cell(cell):
                raise NoPlace("all cells lie on the board")

    def shape_cells(self, shape, z):
        """The list of the cells of a shape in a layer, refused where the shape leaves the board's squares."""
        # By its box, as a shape that leaves the board may have far too many places to be told.
        box = shape.box()
        if not self.has_square(box[0], box[1]) or not self.has_square(box[0] + box[2] - 1, box[1] + box[3] - 1):
            raise NoPlace("all of a shape lies on the board")
        return [place + (z,) for place in shape.cells()]


def need_measure(measure, most):
    """Refuses what is no whole number from 1 to the most."""
    if not is_whole(measure) or not 1 <= measure <= most:
        raise NoBoard(f"a board is 1 to {MOST_WIDE} wide and 1 to {MOST_HIGH} high, of 1 to {MOST_LAYERS} layers")
