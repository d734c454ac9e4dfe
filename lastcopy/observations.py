"""What observed contents show about the order of the saves (points 59 to 65 of the document)."""

from lastcopy.arguments import checked_line_counts, plain_content
from lastcopy.contents import (
    common_prefix,
    cut,
    intervals_between,
    joined_intervals,
    lines_of_runs,
    number_of_lines,
)
from lastcopy.errors import InvalidObservations
from lastcopy.precedence import (
    bases_of,
    cycle_of,
    have_one_base_each,
    log_of_segments,
    pairs_of_bases,
    pairs_with_last,
    possible_order,
    segments_of,
)
from lastcopy.schedules import last_line, schedule_of_log

MOST_OBSERVATIONS = 12


def plain_observations(counts, value):
    if type(value) not in (list, tuple) or not 1 <= len(value) <= MOST_OBSERVATIONS:
        return None
    contents = []
    for item in value:
        runs = plain_content(counts, item)
        if runs is None:
            return None
        contents.append(runs)
    return contents


def checked_observations(counts, value):
    contents = plain_observations(counts, value)
    if contents is None:
        raise InvalidObservations("not one to twelve contents of these line counts")
    return contents


def pairs_of(counts, contents, final):
    """The constraints of the observations, as the keys of a dict."""
    pairs = pairs_of_bases(contents)
    for at in range(1, len(contents)):
        if contents[at - 1] != contents[at]:
            pairs[(last_line(contents[at - 1]), last_line(contents[at]))] = True
    if final:
        pairs.update(pairs_with_last(counts, last_line(contents[-1])))
    return pairs


def rank_of_pair(pair):
    """None comes before all lines."""
    return [(line is not None, line or ()) for line in pair]


def order_of_observations(counts, contents, final):
    """Lines in an order that fits the constraints, or None if the observations are not consistent.

    These are all lines that the constraints name.
    """
    if not have_one_base_each(contents):
        return None
    return possible_order(pairs_of(counts, contents, final))


def constraints(line_counts, observations, *, final=False):
    counts = checked_line_counts(line_counts)
    contents = checked_observations(counts, observations)
    return sorted(pairs_of(counts, contents, final), key=rank_of_pair)


def is_consistent(line_counts, observations, *, final=False):
    counts = checked_line_counts(line_counts)
    contents = checked_observations(counts, observations)
    return order_of_observations(counts, contents, final) is not None


def conflict_between(counts, runs, others):
    """A line of both contents that they have on different lines before it, or None."""
    shared = common_prefix(runs, others)
    same = number_of_lines(shared)
    begun = lines_of_runs(shared)
    rest = lines_of_runs(cut(runs, same)[1])
    other_rest = lines_of_runs(cut(others, same)[1])
    for writer in rest:
        count = counts[writer]
        # What is missing in one of the two, or stands in the shared lines, is no conflict.
        excluded = intervals_between(rest[writer], count) + begun.get(writer, [])
        excluded += intervals_between(other_rest.get(writer, []), count)
        found = intervals_between(joined_intervals(excluded), count)
        if found:
            return (writer, found[0][0])
    return None


def first_conflict(counts, contents):
    for j in range(len(contents)):
        for i in range(j):
            line = conflict_between(counts, contents[i], contents[j])
            if line is not None:
                return ("conflict", i, j, line)
    return None


def observation_obstruction(line_counts, observations, *, final=False):
    counts = checked_line_counts(line_counts)
    contents = checked_observations(counts, observations)
    if order_of_observations(counts, contents, final) is not None:
        return None
    # Two bases in one and the same content are no conflict, but make a cycle.
    if not have_one_base_each(contents):
        conflict = first_conflict(counts, contents)
        if conflict is not None:
            return conflict
    return ("cycle", cycle_of(pairs_of(counts, contents, final)))


def consistent_order(line_counts, observations, *, final=False):
    counts = checked_line_counts(line_counts)
    contents = checked_observations(counts, observations)
    order = order_of_observations(counts, contents, final)
    return None if order is None else segments_of(counts, order)


def schedule_with_observations(line_counts, observations, *, final=False):
    counts = checked_line_counts(line_counts)
    contents = checked_observations(counts, observations)
    order = order_of_observations(counts, contents, final)
    if order is None:
        return None
    log = log_of_segments(segments_of(counts, order), bases_of(contents))
    return schedule_of_log(log, {})
