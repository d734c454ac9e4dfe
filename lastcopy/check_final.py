"""Checks an obstruction or a schedule of a final content (points 20 and 21 of the document)."""

from lastcopy.arguments import checked_content, checked_line_counts, plain_integer, plain_text
from lastcopy.errors import InvalidAction
from lastcopy.schedules import replay_schedule


def obstructions_of_ends(counts, runs):
    """The names of the obstructions without a run index that hold."""
    if not runs:
        return ["empty"] if sum(counts.values()) > 0 else []
    names = []
    if runs[0][1] != 1:
        names.append("start")
    writer, first, last = runs[-1]
    if last != counts[writer]:
        names.append("end")
    return names


def obstructions_of_run(runs, index):
    """The names of the obstructions that hold with this run index, for any integer."""
    names = []
    if not 0 <= index < len(runs):
        return names
    writer, first, last = runs[index]
    earlier = runs[:index]
    if any([run[0] == writer and run[2] >= first for run in earlier]):
        names.append("decreasing")
    if earlier and earlier[-1][0] == writer:
        names.append("split")
    return names


def is_final_obstruction(line_counts, content, value):
    counts = checked_line_counts(line_counts)
    runs = checked_content(counts, content)
    if type(value) != tuple:
        return False
    if len(value) == 1:
        return plain_text(value[0]) in obstructions_of_ends(counts, runs)
    if len(value) == 2:
        index = plain_integer(value[1])
        return index is not None and plain_text(value[0]) in obstructions_of_run(runs, index)
    return False


def is_schedule_to_final(line_counts, value, content):
    counts = checked_line_counts(line_counts)
    runs = checked_content(counts, content)
    try:
        replay = replay_schedule(counts, value)
    except InvalidAction:
        return False
    return replay.page == runs and replay.saved == counts and not replay.copies
