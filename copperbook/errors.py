"""The refusals of the program, one class for each, all under one base."""


class CopperError(ValueError):
    """Any refusal."""


class NoShape(CopperError):
    """Numbers, corners or a text that make no shape."""


class NoBoard(CopperError):
    """Numbers that make no board."""


class NoPlace(CopperError):
    """A cell, a hole or a layer beyond the board."""


class NoPicture(CopperError):
    """A text that is no picture of a board."""


class NoCopper(CopperError):
    """A cell that is no copper where copper is asked for."""


class NoRules(CopperError):
    """Numbers, keeps or a text that make no rules."""


class NoDrawing(CopperError):
    """Parts, nets or an order that make no drawing."""


class NoPin(CopperError):
    """A pin that there isn't, or that has no cell of the board."""


class NoSpan(CopperError):
    """Spans that can't be put into lanes."""


class NoLay(CopperError):
    """A board on which nets can't be laid."""
