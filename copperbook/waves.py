"""Waves: the least dear ways over a field of cells."""

from copperbook.islands import beside, over_and_under


def wave(size, price, through, starts, goals):
    """A least dear way from a start to a goal, or that there is none, with the numbers of all cells that have one."""
    reached = spread_wave(size, price, through, starts)
    numbers = {}
    for cell in reached:
        numbers[cell] = reached[cell][0]
    ends = [(numbers[goal], goal) for goal in goals if goal in numbers]
    if not ends:
        return ("shut", numbers)
    end = min(ends)
    return ("way", way_to(end[1], reached), end[0], numbers)


def spread_wave(size, price, through, starts):
    """A dict from each cell that can be come to, to its number and the cell ahead of it, which a start has none of."""
    # By falling numbers, so that the least one is taken from the end.
    waiting = [(0, start, None) for start in starts if price(start) is not None]
    reached = {}
    while waiting:
        entry = waiting.pop()
        cell = entry[1]
        # A cell waits once for each step to it; the first one taken is the least dear.
        if cell in reached:
            continue
        reached[cell] = (entry[0], entry[2])
        for other, cost in steps(size, price, through, cell):
            if other not in reached:
                put_in(waiting, (entry[0] + cost, other, cell))
    return reached


def steps(size, price, through, cell):
    """The list of the cells to which a step goes from an open cell, each with the step's price."""
    found = priced(price, [spot for spot in beside(cell) if in_size(size, spot)], 0)
    hole = through(cell[0], cell[1])
    if hole is not None:
        found.extend(priced(price, over_and_under(cell, size[2]), hole))
    return found


def priced(price, cells, more):
    """The list of the open ones of these cells, each with its price and so much more."""
    prices = [(cell, price(cell)) for cell in cells]
    return [(cell, number + more) for cell, number in prices if number is not None]


def in_size(size, cell):
    """Whether a cell, which is in one of the size's layers, lies in the size."""
    return 0 <= cell[0] < size[0] and 0 <= cell[1] < size[1]


def put_in(waiting, entry):
    """Puts an entry at its place into a list that goes by falling numbers."""
    low = 0
    high = len(waiting)
    while low < high:
        middle = (low + high) // 2
        if waiting[middle][0] > entry[0]:
            low = middle + 1
        else:
            high = middle
    waiting.insert(low, entry)


def way_to(cell, reached):
    """The list of the cells from a start to a cell, by the cells ahead."""
    cells = []
    while cell is not None:
        cells.append(cell)
        cell = reached[cell][1]
    cells.reverse()
    return cells
