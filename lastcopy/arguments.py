"""Reads arguments, which may be any value, into plain values of the package's own.

Each plain_ function returns None for a wrong value. It looks at the kind of a part before
it compares or hashes it, because a part may refuse both. What it returns is new, so that
nothing of a caller's lists and dicts is kept.
"""

from lastcopy.errors import (
    InvalidContent,
    InvalidInteger,
    InvalidLine,
    InvalidLineCounts,
    InvalidLineSet,
    InvalidNumbers,
)

LARGEST_NUMBER = 10 ** 30
MOST_WRITERS = 12
LONGEST_NAME = 8


def plain_integer(value):
    if isinstance(value, int) and not isinstance(value, bool):
        return int(value)
    return None


def plain_text(value):
    if isinstance(value, str):
        # join gives the characters alone, whatever methods a class below str has.
        return "".join([value])
    return None


def plain_writer(value):
    name = plain_text(value)
    if name is None or not 1 <= len(name) <= LONGEST_NAME:
        return None
    if name.isascii() and name.isalpha() and name.islower():
        return name
    return None


def plain_line_counts(value):
    if not isinstance(value, dict) or not 1 <= len(value) <= MOST_WRITERS:
        return None
    counts = {}
    for key, number in value.items():
        writer = plain_writer(key)
        count = plain_integer(number)
        if writer is None or count is None or not 0 <= count <= LARGEST_NUMBER:
            return None
        counts[writer] = count
    # Equal dicts may differ in the order of their keys; results must not.
    return {writer: counts[writer] for writer in sorted(counts)}


def highest_number(line_counts, writer):
    # None stands for a function without line counts, which takes lines of all writers.
    if line_counts is None:
        return LARGEST_NUMBER
    return line_counts.get(writer, 0)


def plain_lines(line_counts, writer, first, last):
    """The run of these parts, each of which may be any value, or None."""
    name = plain_writer(writer)
    low = plain_integer(first)
    high = plain_integer(last)
    if name is None or low is None or high is None:
        return None
    if 1 <= low <= high <= highest_number(line_counts, name):
        return (name, low, high)
    return None


def plain_line(line_counts, value):
    if type(value) != tuple or len(value) != 2:
        return None
    run = plain_lines(line_counts, value[0], value[1], value[1])
    if run is None:
        return None
    return (run[0], run[1])


def plain_run(line_counts, value):
    if type(value) != tuple or len(value) != 3:
        return None
    return plain_lines(line_counts, value[0], value[1], value[2])


def continues(run, following):
    """Whether the following run would be one run with the run directly before it."""
    return following[0] == run[0] and following[1] == run[2] + 1


def plain_content(line_counts, value):
    if type(value) not in (list, tuple):
        return None
    runs = []
    for item in value:
        run = plain_run(line_counts, item)
        if run is None or (runs and continues(runs[-1], run)):
            return None
        runs.append(run)
    return runs


def plain_intervals(line_counts, writer, value):
    if type(value) != list:
        return None
    intervals = []
    for item in value:
        if type(item) != tuple or len(item) != 2:
            return None
        run = plain_lines(line_counts, writer, item[0], item[1])
        if run is None or (intervals and run[1] <= intervals[-1][1] + 1):
            return None
        intervals.append((run[1], run[2]))
    return intervals


def plain_line_set(line_counts, value):
    if not isinstance(value, dict):
        return None
    line_set = {}
    for key, listed in value.items():
        writer = plain_writer(key)
        if writer is None or (line_counts is not None and writer not in line_counts):
            return None
        intervals = plain_intervals(line_counts, writer, listed)
        if intervals is None:
            return None
        if intervals:
            line_set[writer] = intervals
    return line_set


def plain_table(line_counts, value):
    """A number for every writer, 0 for those that the value does not have, or None."""
    if not isinstance(value, dict):
        return None
    table = {writer: 0 for writer in line_counts}
    for key, item in value.items():
        writer = plain_writer(key)
        number = plain_integer(item)
        if writer not in table or number is None or not 0 <= number <= LARGEST_NUMBER:
            return None
        table[writer] = number
    return table


def checked_line_counts(value):
    counts = plain_line_counts(value)
    if counts is None:
        raise InvalidLineCounts("not a dict from 1 to 12 writers to numbers of lines")
    return counts


def checked_line(line_counts, value):
    line = plain_line(line_counts, value)
    if line is None:
        raise InvalidLine("not a line, or not one of these line counts")
    return line


def checked_content(line_counts, value):
    runs = plain_content(line_counts, value)
    if runs is None:
        raise InvalidContent("not a content, or not one of these line counts")
    return runs


def checked_line_set(line_counts, value):
    line_set = plain_line_set(line_counts, value)
    if line_set is None:
        raise InvalidLineSet("not a line set of these line counts")
    return line_set


def checked_table(line_counts, value):
    table = plain_table(line_counts, value)
    if table is None:
        raise InvalidNumbers("not a dict from writers of these line counts to numbers")
    return table


def checked_integer(value, lowest, highest):
    number = plain_integer(value)
    if number is None or not lowest <= number <= highest:
        raise InvalidInteger("not an integer, or out of range")
    return number
