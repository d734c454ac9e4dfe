"""Line counts, lines, contents and line sets (points 6 to 12 of the document)."""

from lastcopy.arguments import (
    checked_content,
    checked_integer,
    checked_line,
    checked_line_counts,
    continues,
    plain_content,
    plain_line,
    plain_line_counts,
    plain_line_set,
)


def is_line_counts(value):
    return plain_line_counts(value) is not None


def is_line(line_counts, value):
    counts = checked_line_counts(line_counts)
    return plain_line(counts, value) is not None


def is_content(line_counts, value):
    counts = checked_line_counts(line_counts)
    return plain_content(counts, value) is not None


def is_line_set(line_counts, value):
    counts = checked_line_counts(line_counts)
    return plain_line_set(counts, value) is not None


def number_of_lines(runs):
    return sum([last - first + 1 for writer, first, last in runs])


def with_run(runs, run):
    """A new content: the runs with one more run at the end."""
    if runs and continues(runs[-1], run):
        joined = (run[0], runs[-1][1], run[2])
        return runs[:-1] + [joined]
    return runs + [run]


def cut(runs, count):
    """Two new contents: the first count lines, and the others."""
    left = count
    front = []
    back = []
    for writer, first, last in runs:
        taken = min(left, last - first + 1)
        left -= taken
        if taken > 0:
            front.append((writer, first, first + taken - 1))
        if first + taken <= last:
            back.append((writer, first + taken, last))
    return (front, back)


def place_of(runs, line):
    """The first index of a line, or None."""
    before = 0
    for writer, first, last in runs:
        if writer == line[0] and first <= line[1] <= last:
            return before + line[1] - first
        before += last - first + 1
    return None


def common_prefix(runs, others):
    """The lines with which both contents begin."""
    shared = []
    for run, other in zip(runs, others):
        if run[:2] != other[:2]:
            return shared
        shared.append((run[0], run[1], min(run[2], other[2])))
        if run[2] != other[2]:
            return shared
    return shared


def begins_with(runs, others):
    """Whether the others are the first lines of the runs."""
    if not others:
        return True
    if len(others) > len(runs):
        return False
    # A content has only one form, so all runs but the last one must be the same.
    end = len(others) - 1
    writer, first, last = others[end]
    same_start = others[:end] == runs[:end] and (writer, first) == runs[end][:2]
    return same_start and last <= runs[end][2]


def joined_intervals(intervals):
    """The intervals, in any order, with those that overlap or touch made one."""
    joined = []
    for first, last in sorted(intervals):
        if joined and first <= joined[-1][1] + 1:
            joined[-1] = (joined[-1][0], max(last, joined[-1][1]))
        else:
            joined.append((first, last))
    return joined


def lines_of_runs(runs):
    """The line set of all lines of the runs."""
    found = {}
    for writer, first, last in runs:
        found.setdefault(writer, []).append((first, last))
    return {writer: joined_intervals(found[writer]) for writer in sorted(found)}


def intervals_between(intervals, highest):
    """The intervals of the numbers from 1 to highest that are in none of the given ones."""
    found = []
    start = 1
    for first, last in intervals:
        if start < first:
            found.append((start, first - 1))
        start = last + 1
    if start <= highest:
        found.append((start, highest))
    return found


def count_lines(content):
    runs = checked_content(None, content)
    return number_of_lines(runs)


def line_at(content, index):
    runs = checked_content(None, content)
    before = checked_integer(index, 0, number_of_lines(runs) - 1)
    front, back = cut(runs, before)
    return (back[0][0], back[0][1])


def index_of(content, line):
    runs = checked_content(None, content)
    wanted = checked_line(None, line)
    return place_of(runs, wanted)


def is_prefix(content, other):
    runs = checked_content(None, content)
    others = checked_content(None, other)
    return begins_with(others, runs)


def append_line(content, line):
    runs = checked_content(None, content)
    writer, number = checked_line(None, line)
    return with_run(runs, (writer, number, number))


def split_at(content, count):
    runs = checked_content(None, content)
    taken = checked_integer(count, 0, number_of_lines(runs))
    return cut(runs, taken)


def reverse_content(line_counts, content):
    counts = checked_line_counts(line_counts)
    runs = checked_content(counts, content)
    return [(writer, counts[writer] + 1 - last, counts[writer] + 1 - first)
            for writer, first, last in reversed(runs)]
