"""Checks an obstruction of a line set (point 34 of the document)."""

from lastcopy.arguments import (
    checked_line_counts,
    checked_line_set,
    plain_integer,
    plain_line,
    plain_text,
    plain_writer,
)
from lastcopy.survivors import survival_obstructions


def plain_obstruction(counts, value):
    """The parts of an obstruction, None for each that is none, or None for another form."""
    if type(value) != tuple or len(value) not in (1, 2, 4):
        return None
    name = plain_text(value[0])
    if len(value) == 1:
        return (name,)
    if len(value) == 2:
        return (name, plain_line(counts, value[1]))
    return (name, plain_writer(value[1]), plain_integer(value[2]), plain_integer(value[3]))


def is_survival_obstruction(line_counts, line_set, value):
    counts = checked_line_counts(line_counts)
    lines = checked_line_set(counts, line_set)
    return plain_obstruction(counts, value) in survival_obstructions(counts, lines)
