"""What is certain about the order of the saves, and what covers a lost line (points 66 to 71)."""

from lastcopy.arguments import checked_content, checked_line, checked_line_counts
from lastcopy.errors import InvalidContent, InvalidLine, InvalidObservations
from lastcopy.final import final_obstruction, schedule_of_runs
from lastcopy.observations import checked_observations, order_of_observations, pairs_of
from lastcopy.overwrites import gaps_of_runs
from lastcopy.precedence import (
    following_lines,
    lines_reached,
    possible_order,
    segments_of,
    turned_around,
)


def consistent_pairs(counts, observations, final):
    contents = checked_observations(counts, observations)
    if order_of_observations(counts, contents, final) is None:
        raise InvalidObservations("the observations are not consistent")
    return pairs_of(counts, contents, final)


def checked_lines(counts, first, second):
    """The two lines, which must be different."""
    lines = [checked_line(counts, first), checked_line(counts, second)]
    if lines[0] == lines[1]:
        raise InvalidLine("the two lines are equal")
    return lines


def known_order(pairs, one, other):
    """True if the one line is certainly saved first, False if the other one is, else None."""
    after = following_lines(pairs, [one, other])
    if other in lines_reached(after, one):
        return True
    if one in lines_reached(after, other):
        return False
    return None


def certain_order(line_counts, observations, first, second, *, final=False):
    counts = checked_line_counts(line_counts)
    pairs = consistent_pairs(counts, observations, final)
    one, other = checked_lines(counts, first, second)
    return known_order(pairs, one, other)


def last_numbers_before(pairs, line):
    """The last number of each writer that is the line or is certainly saved before it."""
    before = turned_around(following_lines(pairs, [line]))
    numbers = {}
    for writer, number in lines_reached(before, line):
        numbers[writer] = max(number, numbers.get(writer, 0))
    return numbers


def first_numbers_after(pairs, line):
    """The first number of each writer that is the line or is certainly saved after it."""
    after = following_lines(pairs, [line])
    numbers = {}
    for writer, number in lines_reached(after, line):
        numbers[writer] = min(number, numbers.get(writer, number))
    return numbers


def min_saves_before(line_counts, observations, line, *, final=False):
    counts = checked_line_counts(line_counts)
    pairs = consistent_pairs(counts, observations, final)
    wanted = checked_line(counts, line)
    return sum(last_numbers_before(pairs, wanted).values()) - 1


def max_saves_before(line_counts, observations, line, *, final=False):
    counts = checked_line_counts(line_counts)
    pairs = consistent_pairs(counts, observations, final)
    wanted = checked_line(counts, line)
    numbers = first_numbers_after(pairs, wanted)
    not_before = sum([counts[writer] - number + 1 for writer, number in numbers.items()])
    return sum(counts.values()) - not_before


def order_with(counts, pairs, earlier, later):
    """A save order of all lines in which the one line is also saved before the other one."""
    order = possible_order(list(pairs) + [(earlier, later)])
    return segments_of(counts, order)


def orders_both_ways(line_counts, observations, first, second, *, final=False):
    counts = checked_line_counts(line_counts)
    pairs = consistent_pairs(counts, observations, final)
    one, other = checked_lines(counts, first, second)
    if known_order(pairs, one, other) is not None:
        return None
    return (order_with(counts, pairs, one, other), order_with(counts, pairs, other, one))


def min_saves_between(line_counts, observations, first, second, *, final=False):
    counts = checked_line_counts(line_counts)
    pairs = consistent_pairs(counts, observations, final)
    one, other = checked_lines(counts, first, second)
    is_first = known_order(pairs, one, other)
    if is_first is None:
        return 0
    after = first_numbers_after(pairs, one if is_first else other)
    before = last_numbers_before(pairs, other if is_first else one)
    # Both lines are counted, because each one is among its own.
    return sum([max(0, before.get(writer, 0) - number + 1)
                for writer, number in after.items()]) - 2


def possible_first_writers(line_counts, observations, *, final=False):
    counts = checked_line_counts(line_counts)
    pairs = consistent_pairs(counts, observations, final)
    later = {after: True for before, after in pairs if before is not None}
    return [writer for writer in counts if counts[writer] > 0 and (writer, 1) not in later]


def possible_last_writers(line_counts, observations, *, final=False):
    counts = checked_line_counts(line_counts)
    pairs = consistent_pairs(counts, observations, final)
    earlier = {before: True for before, after in pairs}
    return [writer for writer in counts
            if counts[writer] > 0 and (writer, counts[writer]) not in earlier]


def checked_final_content(counts, content):
    runs = checked_content(counts, content)
    if final_obstruction(counts, runs) is not None:
        raise InvalidContent("the content cannot be final")
    return runs


def gap_of(found, line):
    """The gap of a line, or None if the line survives."""
    for gap in found:
        if gap[0] == line[0] and gap[1] <= line[1] <= gap[2]:
            return gap
    return None


def covering_runs(line_counts, content, line):
    counts = checked_line_counts(line_counts)
    runs = checked_final_content(counts, content)
    gap = gap_of(gaps_of_runs(counts, runs), checked_line(counts, line))
    return [] if gap is None else runs[gap[3]:gap[4] + 1]


def covering_index(runs, gap, line):
    """The index of the run that has the line and belongs to the gap, or None."""
    for index in range(gap[3], gap[4] + 1):
        writer, first, last = runs[index]
        if writer == line[0] and first <= line[1] <= last:
            return index
    return None


def schedule_covering(line_counts, content, line, by):
    counts = checked_line_counts(line_counts)
    runs = checked_final_content(counts, content)
    wanted = checked_line(counts, line)
    cover = checked_line(counts, by)
    found = gaps_of_runs(counts, runs)
    gap = gap_of(found, wanted)
    index = None if gap is None else covering_index(runs, gap, cover)
    if index is None:
        return None
    writer, first, last = runs[index]
    # The covering line must be the first one of its piece, so that its save overwrites the gap.
    split = [(writer, first, cover[1] - 1)] if first < cover[1] else []
    pieces = runs[:index] + split + [(writer, cover[1], last)] + runs[index + 1:]
    lost = {}
    for each in found:
        at = index if each == gap else each[3]
        place = at + len(split) if each == gap or at > index else at
        lost.setdefault(place, []).append(("append", each[0], each[2] - each[1] + 1))
    return schedule_of_runs(pieces, lost)
