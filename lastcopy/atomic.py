"""Final contents with atomic lines (points 45 to 51 of the document)."""

from lastcopy.arguments import (
    checked_content,
    checked_line_counts,
    plain_line_set,
    plain_text,
)
from lastcopy.check_final import is_final_obstruction
from lastcopy.check_overwrites import plain_gap
from lastcopy.contents import lines_of_runs, number_of_lines
from lastcopy.errors import InvalidAction, InvalidAtomicSet, TooManyResults
from lastcopy.final import final_obstruction, schedule_of_runs
from lastcopy.overwrites import gaps, overwrite_runs
from lastcopy.schedules import replay_schedule
from lastcopy.survivors import lost_lines

MOST_LINES = 200


def checked_atomic_set(line_counts, value):
    line_set = plain_line_set(line_counts, value)
    if line_set is None:
        raise InvalidAtomicSet("not a line set of these line counts")
    return line_set


def free_parts(counts, lines, runs):
    """For each run the intervals of its lines that are not atomic."""
    free = lost_lines(counts, lines)
    return [[(max(low, first), min(high, last)) for low, high in free.get(writer, [])
             if low <= last and first <= high]
            for writer, first, last in runs]


def is_atomic_schedule(line_counts, atomic, value):
    counts = checked_line_counts(line_counts)
    lines = checked_atomic_set(counts, atomic)
    try:
        replay = replay_schedule(counts, value)
    except InvalidAction:
        return False
    overwriting = [save.run for save in replay.saves if save.is_overwrite]
    return all(free_parts(counts, lines, overwriting))


def blocked_gaps(counts, lines, runs):
    """The gaps whose runs have only atomic lines, of a content that can be final."""
    parts = free_parts(counts, lines, runs)
    return [gap for gap in gaps(counts, runs) if not any(parts[gap[3]:gap[4] + 1])]


def can_be_final_atomic(line_counts, atomic, content):
    return atomic_final_obstruction(line_counts, atomic, content) is None


def atomic_final_obstruction(line_counts, atomic, content):
    counts = checked_line_counts(line_counts)
    lines = checked_atomic_set(counts, atomic)
    runs = checked_content(counts, content)
    obstruction = final_obstruction(counts, runs)
    if obstruction is not None:
        return obstruction
    blocked = blocked_gaps(counts, lines, runs)
    return ("atomic", blocked[0]) if blocked else None


def is_atomic_final_obstruction(line_counts, atomic, content, value):
    counts = checked_line_counts(line_counts)
    lines = checked_atomic_set(counts, atomic)
    runs = checked_content(counts, content)
    if final_obstruction(counts, runs) is not None:
        return is_final_obstruction(counts, runs, value)
    if type(value) != tuple or len(value) != 2 or plain_text(value[0]) != "atomic":
        return False
    return plain_gap(value[1]) in blocked_gaps(counts, lines, runs)


def lost_at_free_lines(found, parts):
    """The appends of the lines of each gap, by the index of a run with a line that may overwrite."""
    lost = {}
    for writer, first, last, start, stop in found:
        index = start
        while not parts[index]:
            index += 1
        lost.setdefault(index, []).append(("append", writer, last - first + 1))
    return lost


def schedule_to_final_atomic(line_counts, atomic, content):
    counts = checked_line_counts(line_counts)
    lines = checked_atomic_set(counts, atomic)
    runs = checked_content(counts, content)
    if atomic_final_obstruction(counts, lines, runs) is not None:
        return None
    parts = free_parts(counts, lines, runs)
    lost = lost_at_free_lines(gaps(counts, runs), parts)
    pieces = []
    lost_at_pieces = {}
    for index, (writer, first, last) in enumerate(runs):
        number = first
        if index in lost:
            # The line that overwrites must be the first one of its piece.
            number = parts[index][0][0]
            if first < number:
                pieces.append((writer, first, number - 1))
            lost_at_pieces[len(pieces)] = lost[index]
        pieces.append((writer, number, last))
    return schedule_of_runs(pieces, lost_at_pieces)


def min_non_atomic_lines(line_counts, content):
    counts = checked_line_counts(line_counts)
    runs = checked_content(counts, content)
    chosen = overwrite_runs(counts, runs)
    if chosen is None:
        return None
    return lines_of_runs([(runs[index][0], runs[index][1], runs[index][1]) for index in chosen])


def required_non_atomic_lines(line_counts, atomic, content):
    counts = checked_line_counts(line_counts)
    lines = checked_atomic_set(counts, atomic)
    runs = checked_content(counts, content)
    if atomic_final_obstruction(counts, lines, runs) is not None:
        return None
    parts = free_parts(counts, lines, runs)
    required = []
    for gap in gaps(counts, runs):
        covering = [(runs[index][0], first, last) for index in range(gap[3], gap[4] + 1)
                    for first, last in parts[index]]
        if number_of_lines(covering) == 1:
            required.append(covering[0])
    return lines_of_runs(required)


def count_atomic_sets(line_counts, content):
    counts = checked_line_counts(line_counts)
    runs = checked_content(counts, content)
    total = sum(counts.values())
    if total > MOST_LINES:
        raise TooManyResults(total)
    found = gaps(counts, runs)
    if found is None:
        return 0
    # Atomic sets of the runs so far, by the number of runs up to the last one that is not atomic.
    ways = [1]
    for index, (writer, first, last) in enumerate(runs):
        ways.append(sum(ways) * ((1 << (last - first + 1)) - 1))
        for start in [gap[3] for gap in found if gap[4] == index]:
            ways = [0] * (start + 1) + ways[start + 1:]
    return sum(ways) << (total - number_of_lines(runs))
