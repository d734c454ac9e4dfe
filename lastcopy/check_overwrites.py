"""Checks covers of gaps and gaps that share no run (point 28 of the document)."""

from lastcopy.arguments import (
    checked_content,
    checked_line_counts,
    plain_integer,
    plain_writer,
)
from lastcopy.overwrites import gaps


def plain_gap(value):
    """The parts of a gap, None for each that is none, or None if the value has another form."""
    if type(value) != tuple or len(value) != 5:
        return None
    return (plain_writer(value[0]), plain_integer(value[1]), plain_integer(value[2]),
            plain_integer(value[3]), plain_integer(value[4]))


def is_strictly_ascending(items):
    return all([items[at - 1] < items[at] for at in range(1, len(items))])


def plain_run_indices(runs, value):
    """A strictly ascending list of run indices, or None."""
    if type(value) != list:
        return None
    indices = []
    for item in value:
        index = plain_integer(item)
        if index is None or not 0 <= index < len(runs):
            return None
        indices.append(index)
    return indices if is_strictly_ascending(indices) else None


def covers_all_gaps(line_counts, content, value):
    counts = checked_line_counts(line_counts)
    runs = checked_content(counts, content)
    found = gaps(counts, runs)
    if found is None:
        return None
    indices = plain_run_indices(runs, value)
    if indices is None:
        return False
    return all([any([start <= index <= stop for index in indices])
                for writer, first, last, start, stop in found])


def plain_gaps(found, value):
    """A strictly ascending list of gaps that were found, or None."""
    if type(value) != list:
        return None
    chosen = []
    for item in value:
        gap = plain_gap(item)
        if gap not in found:
            return None
        chosen.append(gap)
    return chosen if is_strictly_ascending(chosen) else None


def are_disjoint_gaps(line_counts, content, value):
    found = gaps(line_counts, content)
    if found is None:
        return None
    chosen = plain_gaps(found, value)
    if chosen is None:
        return False
    spans = sorted([(start, stop) for writer, first, last, start, stop in chosen])
    return all([spans[at - 1][1] < spans[at][0] for at in range(1, len(spans))])
