"""Channels: spans of columns in as few lanes as can be."""

from copperbook.errors import NoSpan


def lanes(spans):
    """The spans in rows, and a column that as many of them have as there are rows, so that no fewer hold them."""
    need_spans(spans)
    rows = []
    column = None
    for span in sorted(spans, key=lambda one: one[1]):
        row = free_row(rows, span[1])
        if row is None:
            # The last span of each row has this column too, as it began ahead of here and shuts its row.
            column = span[1]
            rows.append([span])
        else:
            row.append(span)
    return ("lanes", rows, column, sorted([net for net, left, right in spans if left <= column <= right]))


def free_row(rows, left):
    """The first of the rows whose last span ends ahead of this column, or None."""
    for row in rows:
        if row[-1][2] < left:
            return row
    return None


def need_spans(spans):
    """Refuses spans with a left above the right, or with one net twice."""
    for net, left, right in spans:
        if left > right:
            raise NoSpan("a span's left is not above its right")
    nets = [span[0] for span in spans]
    if len(set(nets)) != len(nets):
        raise NoSpan("each span has a net of its own")
