"""Shapes: blocks, lines and frames of places, and their texts."""

from copperbook.errors import NoShape
from copperbook.words import is_whole, read_row, tell_row

MOST_CORNERS = 40
WIDTHS = (1, 3)


class Shape:
    """Any shape: what Block, Line and Frame have in common is their methods."""


class Block(Shape):
    """All places of a box."""

    def __init__(self, x, y, wide, high):
        need_whole([x, y])
        need_from_one([wide, high])
        self.x = x
        self.y = y
        self.wide = wide
        self.high = high

    def cells(self):
        """The sorted list of the places."""
        return box_places(self.x, self.y, self.wide, self.high)

    def box(self):
        """The least box around the places: (x, y, wide, high)."""
        return (self.x, self.y, self.wide, self.high)

    def moved(self, across, down):
        """The block with each place farther by these."""
        need_whole([across, down])
        return Block(self.x + across, self.y + down, self.wide, self.high)

    def turned(self, high):
        """The block with each place (x, y) at (high - 1 - y, x)."""
        need_whole([high])
        return Block(flipped_start(high, self.y, self.high), self.x, self.high, self.wide)

    def mirrored(self, wide):
        """The block with each place (x, y) at (wide - 1 - x, y)."""
        need_whole([wide])
        return Block(flipped_start(wide, self.x, self.wide), self.y, self.wide, self.high)

    def told(self):
        """The block as a text."""
        return tell_row("block", [self.x, self.y, self.wide, self.high])


class Line(Shape):
    """All places that a square pen covers on its way from corner to corner."""

    def __init__(self, corners, width):
        need_corners(corners)
        if not is_whole(width) or width not in WIDTHS:
            raise NoShape("a line is 1 or 3 wide")
        # A tuple, so that nobody's later change of the list comes in here.
        self.corners = tuple(corners)
        self.width = width

    def cells(self):
        """The sorted list of the places."""
        half = self.width // 2
        places = []
        # The first corner stands beside itself, so that a line of one corner has a run too.
        for one, other in zip(self.corners[:1] + self.corners, self.corners):
            x = min(one[0], other[0]) - half
            y = min(one[1], other[1]) - half
            wide = abs(one[0] - other[0]) + self.width
            high = abs(one[1] - other[1]) + self.width
            places.extend(box_places(x, y, wide, high))
        return sorted(set(places))

    def box(self):
        """The least box around the places: (x, y, wide, high)."""
        half = self.width // 2
        across = [corner[0] for corner in self.corners]
        down = [corner[1] for corner in self.corners]
        wide = max(across) - min(across) + self.width
        high = max(down) - min(down) + self.width
        return (min(across) - half, min(down) - half, wide, high)

    def moved(self, across, down):
        """The line with each place farther by these."""
        need_whole([across, down])
        return Line([(x + across, y + down) for x, y in self.corners], self.width)

    def turned(self, high):
        """The line with each place (x, y) at (high - 1 - y, x)."""
        need_whole([high])
        return Line([(high - 1 - y, x) for x, y in self.corners], self.width)

    def mirrored(self, wide):
        """The line with each place (x, y) at (wide - 1 - x, y)."""
        need_whole([wide])
        return Line([(wide - 1 - x, y) for x, y in self.corners], self.width)

    def told(self):
        """The line as a text."""
        numbers = [self.width]
        for corner in self.corners:
            numbers.extend(corner)
        return tell_row("line", numbers)


class Frame(Shape):
    """The places of a box that lie near its edge."""

    def __init__(self, x, y, wide, high, thick):
        need_whole([x, y])
        need_from_one([wide, high, thick])
        self.x = x
        self.y = y
        self.wide = wide
        self.high = high
        self.thick = thick

    def cells(self):
        """The sorted list of the places."""
        places = box_places(self.x, self.y, self.wide, self.high)
        return [place for place in places if self.steps_from_edge(place) < self.thick]

    def box(self):
        """The least box around the places: (x, y, wide, high)."""
        return (self.x, self.y, self.wide, self.high)

    def steps_from_edge(self, place):
        """How many steps a place of the box lies from the box's edge."""
        across = place[0] - self.x
        down = place[1] - self.y
        return min(across, self.wide - 1 - across, down, self.high - 1 - down)

    def moved(self, across, down):
        """The frame with each place farther by these."""
        need_whole([across, down])
        return Frame(self.x + across, self.y + down, self.wide, self.high, self.thick)

    def turned(self, high):
        """The frame with each place (x, y) at (high - 1 - y, x)."""
        need_whole([high])
        return Frame(flipped_start(high, self.y, self.high), self.x, self.high, self.wide, self.thick)

    def mirrored(self, wide):
        """The frame with each place (x, y) at (wide - 1 - x, y)."""
        need_whole([wide])
        return Frame(flipped_start(wide, self.x, self.wide), self.y, self.wide, self.high, self.thick)

    def told(self):
        """The frame as a text."""
        return tell_row("frame", [self.x, self.y, self.wide, self.high, self.thick])


def need_whole(numbers):
    """Refuses where one of these is no whole number."""
    for number in numbers:
        if not is_whole(number):
            raise NoShape("a shape's numbers are whole numbers")


def need_from_one(numbers):
    """Refuses where one of these is no whole number from 1 on."""
    need_whole(numbers)
    if min(numbers) < 1:
        raise NoShape("a shape is at least 1 wide, high and thick")


def need_corners(corners):
    """Refuses what is no list of places, each in line with the next."""
    if not isinstance(corners, list) or not 1 <= len(corners) <= MOST_CORNERS:
        raise NoShape(f"a line has a list of 1 to {MOST_CORNERS} corners")
    for corner in corners:
        if not isinstance(corner, tuple) or len(corner) != 2:
            raise NoShape("a corner is a tuple of two whole numbers")
        need_whole(corner)
    for one, other in zip(corners, corners[1:]):
        if one[0] != other[0] and one[1] != other[1]:
            raise NoShape("neighbouring corners are in line")


def box_places(x, y, wide, high):
    """The sorted list of all places of a box."""
    places = []
    for column in range(x, x + wide):
        places.extend([(column, row) for row in range(y, y + high)])
    return places


def flipped_start(size, start, length):
    """Where a run of places begins when each place p of it becomes size - 1 - p."""
    # The run's last place, start + length - 1, becomes its first one.
    return size - start - length


def read_shape(text):
    """The shape that a text tells."""
    row = read_row(text)
    if row is None:
        raise NoShape("a shape's text is a word and numbers, parted by single blanks")
    word = row[0]
    numbers = row[1]
    if word == "block" and len(numbers) == 4:
        return Block(numbers[0], numbers[1], numbers[2], numbers[3])
    if word == "line" and len(numbers) % 2 == 1:
        return Line(list(zip(numbers[1::2], numbers[2::2])), numbers[0])
    if word == "frame" and len(numbers) == 5:
        return Frame(numbers[0], numbers[1], numbers[2], numbers[3], numbers[4])
    raise NoShape("a shape is a block of 4 numbers, a line of a width and corners, or a frame of 5 numbers")
