"""Alike: whether two drawings are the same but for their names, and what shows it."""

WORDS = ("part", "net")


class Sketch:
    """A drawing without names: its parts and nets are told by their numbers."""

    def __init__(self, drawing):
        parts = numbered(list(drawing.kinds))
        nets = numbered(list(drawing.net_pins()))
        # For each part its kind and how many pins it has, and the numbers of its pins' nets, by rising pins.
        self.heads = list(drawing.kinds.values())
        self.wires = [[] for part in parts]
        # For each net its pins, each as the part's number and its own.
        self.ends = [[] for net in nets]
        for pin in drawing.pins():
            part = parts[pin[0]]
            net = nets[drawing.net_of(pin)]
            self.wires[part].append(net)
            self.ends[net].append((part, pin[1]))


def alike(one, other):
    """A renaming of the one drawing's parts and nets to the other's, or what no renaming can change."""
    return alike_with((Sketch(one), Sketch(other)), [])


def alike_with(both, held):
    """What alike tells of two sketches for the pairs of parts that are held together."""
    rounds = all_rounds(both, held)
    odd = first_odd(rounds)
    if odd is not None:
        return odd
    marks = rounds[-1]["part"]
    shared = [mark for mark in marks[0] if marks[0].count(mark) > 1]
    if not shared:
        return ("same", renaming(marks), renaming(rounds[-1]["net"]))
    least = min(shared)
    part = marks[0].index(least)
    rows = []
    for number, mark in enumerate(marks[1]):
        if mark == least:
            told = alike_with(both, held + [(part, number)])
            if told[0] == "same":
                return told
            rows.append((number, told))
    return ("choice", part, rows)


def all_rounds(both, held):
    """The list of all rounds, each a dict from part and net to the marks of both drawings."""
    rounds = [first_round(both, held)]
    many = None
    while many != how_many(rounds[-1]):
        many = how_many(rounds[-1])
        rounds.append(next_round(both, rounds[-1]))
    return rounds


def first_round(both, held):
    """The marks of round 0: by kinds, pins and pairs held, and by numbers of pins."""
    parts = []
    nets = []
    for side, sketch in enumerate(both):
        parts.append(held_parts(sketch, [pair[side] for pair in held]))
        nets.append(pin_counts(sketch))
    return {"part": ranked(parts), "net": ranked(nets)}


def held_parts(sketch, held):
    """What the parts have in round 0, held being the numbers of those that are held, pair by pair."""
    found = []
    for number, head in enumerate(sketch.heads):
        pair = held.index(number) + 1 if number in held else 0
        found.append(head + (pair,))
    return found


def pin_counts(sketch):
    """What the nets have in round 0: how many pins they have."""
    return [len(ends) for ends in sketch.ends]


def next_round(both, marks):
    """The marks of the round behind one with these marks."""
    parts = []
    nets = []
    for side, sketch in enumerate(both):
        part_marks = marks["part"][side]
        net_marks = marks["net"][side]
        parts.append(wired_parts(sketch, part_marks, net_marks))
        nets.append(joined_nets(sketch, part_marks, net_marks))
    return {"part": ranked(parts), "net": ranked(nets)}


def wired_parts(sketch, part_marks, net_marks):
    """What the parts have behind round 0: their marks and those of their pins' nets."""
    found = []
    for mark, wires in zip(part_marks, sketch.wires):
        found.append((mark, tuple([net_marks[net] for net in wires])))
    return found


def joined_nets(sketch, part_marks, net_marks):
    """What the nets have behind round 0: their marks and those of the parts that they join, with the pins."""
    found = []
    for mark, ends in zip(net_marks, sketch.ends):
        found.append((mark, tuple(sorted([(part_marks[part], pin) for part, pin in ends]))))
    return found


def ranked(found):
    """The marks for what two drawings have: its number among all that both have, sorted, each once."""
    ranks = numbered(sorted(set(found[0] + found[1])))
    return [[ranks[thing] for thing in found[0]], [ranks[thing] for thing in found[1]]]


def numbered(things):
    """A dict from each of these to its number in the list."""
    numbers = {}
    for number, thing in enumerate(things):
        numbers[thing] = number
    return numbers


def how_many(marks):
    """How many unlike marks of parts and of nets a round has made."""
    return [len(set(marks[word][0] + marks[word][1])) for word in WORDS]


def first_odd(rounds):
    """The first mark that unlike numbers of parts, or else of nets, of the two drawings have, or None."""
    for number, marks in enumerate(rounds):
        for word in WORDS:
            here = marks[word][0]
            there = marks[word][1]
            for mark in sorted(set(here + there)):
                if here.count(mark) != there.count(mark):
                    return ("marks", number, word, mark, here.count(mark), there.count(mark))
    return None


def renaming(marks):
    """The list of the numbers of those of the other drawing that have the same marks."""
    return [marks[1].index(mark) for mark in marks[0]]
