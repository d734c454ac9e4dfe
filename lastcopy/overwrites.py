"""Gaps of a final content, and how many overwrites they need (points 26 to 31 of the document)."""

from lastcopy.arguments import checked_content, checked_integer, checked_line_counts
from lastcopy.final import final_obstruction, schedule_of_runs


def gaps_of_runs(counts, runs):
    """The gaps of a content that can be final."""
    found = []
    # Each writer's latest number, and the index of the run that has it.
    latest = {writer: (0, -1) for writer in counts}
    for index, (writer, first, last) in enumerate(runs):
        number, before = latest[writer]
        if first > number + 1:
            found.append((writer, number + 1, first - 1, before + 1, index - 1))
        latest[writer] = (last, index)
    for writer, (number, before) in latest.items():
        if number < counts[writer]:
            found.append((writer, number + 1, counts[writer], before + 1, len(runs) - 1))
    return sorted(found)


def stop_of_gap(gap):
    return gap[4]


def gaps_that_share_no_run(found):
    """As many of the gaps as possible, in the order in which they stop.

    The gap that stops first is always taken. The gaps that it rules out all have its last run,
    so that the last runs of the gaps taken cover every gap.
    """
    taken = []
    for gap in sorted(found, key=stop_of_gap):
        if not taken or gap[3] > taken[-1][4]:
            taken.append(gap)
    return taken


def covering_stops(found):
    return [stop_of_gap(gap) for gap in gaps_that_share_no_run(found)]


def gaps(line_counts, content):
    counts = checked_line_counts(line_counts)
    runs = checked_content(counts, content)
    if final_obstruction(counts, runs) is not None:
        return None
    return gaps_of_runs(counts, runs)


def min_overwrites(line_counts, content):
    found = gaps(line_counts, content)
    if found is None:
        return None
    return len(gaps_that_share_no_run(found))


def overwrite_runs(line_counts, content):
    found = gaps(line_counts, content)
    if found is None:
        return None
    return covering_stops(found)


def disjoint_gaps(line_counts, content):
    found = gaps(line_counts, content)
    if found is None:
        return None
    return sorted(gaps_that_share_no_run(found))


def schedule_with_min_overwrites(line_counts, content):
    counts = checked_line_counts(line_counts)
    runs = checked_content(counts, content)
    found = gaps(counts, runs)
    if found is None:
        return None
    stops = covering_stops(found)
    lost = {}
    for writer, first, last, start, stop in found:
        covering = [index for index in stops if start <= index <= stop]
        lost.setdefault(covering[0], []).append(("append", writer, last - first + 1))
    return schedule_of_runs(runs, lost)


def gaps_covered_by(line_counts, content, index):
    counts = checked_line_counts(line_counts)
    runs = checked_content(counts, content)
    number = checked_integer(index, 0, len(runs) - 1)
    found = gaps(counts, runs)
    if found is None:
        return None
    return [gap for gap in found if gap[3] <= number <= gap[4]]
