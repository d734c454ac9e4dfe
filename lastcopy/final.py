"""Contents that can appear and contents that can be final (points 19 to 25 of the document)."""

from lastcopy.arguments import checked_content, checked_line_counts


def appearing_obstruction(runs):
    """The first reason why a content cannot appear, or None if it can."""
    if runs and runs[0][1] != 1:
        return ("start",)
    latest = {}
    for index, (writer, first, last) in enumerate(runs):
        if first <= latest.get(writer, 0):
            return ("decreasing", index)
        if index > 0 and runs[index - 1][0] == writer:
            return ("split", index)
        latest[writer] = last
    return None


def latest_numbers(before, runs):
    """Each writer's last number in ascending runs, or its number before them."""
    latest = dict(before)
    for writer, first, last in runs:
        latest[writer] = last
    return latest


def no_numbers(counts):
    return {writer: 0 for writer in counts}


def can_appear(line_counts, content):
    counts = checked_line_counts(line_counts)
    runs = checked_content(counts, content)
    return appearing_obstruction(runs) is None


def can_be_final(line_counts, content):
    return final_obstruction(line_counts, content) is None


def final_obstruction(line_counts, content):
    counts = checked_line_counts(line_counts)
    runs = checked_content(counts, content)
    if not runs:
        return ("empty",) if sum(counts.values()) > 0 else None
    obstruction = appearing_obstruction(runs)
    if obstruction is not None:
        return obstruction
    writer, first, last = runs[-1]
    return ("end",) if last != counts[writer] else None


def lost_between_runs(before, runs):
    """The appends of lines missing before a run, by the index of the run directly before it.

    The runs go on from the numbers that the writers have before them.
    """
    latest = dict(before)
    lost = {}
    for index, (writer, first, last) in enumerate(runs):
        missing = first - 1 - latest[writer]
        if missing > 0:
            lost[index - 1] = [("append", writer, missing)]
        latest[writer] = last
    return lost


def lost_at_the_end(counts, before, runs):
    """The appends of the lines behind each writer's last line."""
    latest = latest_numbers(before, runs)
    return [("append", writer, counts[writer] - latest[writer])
            for writer in counts if latest[writer] < counts[writer]]


def schedule_of_runs(runs, lost):
    """A schedule that ends with the runs on the page.

    What is lost at a run is appended while the run's writer holds a copy, so that the first line
    of the run overwrites it.
    """
    schedule = []
    for index, (writer, first, last) in enumerate(runs):
        left = last - first + 1
        if index in lost:
            schedule.append(("read", writer))
            schedule.extend(lost[index])
            schedule.append(("save", writer))
            left -= 1
        if left > 0:
            schedule.append(("append", writer, left))
    return schedule


def schedule_to_final(line_counts, content):
    counts = checked_line_counts(line_counts)
    runs = checked_content(counts, content)
    if final_obstruction(counts, runs) is not None:
        return None
    lost = lost_between_runs(no_numbers(counts), runs)
    behind = lost_at_the_end(counts, no_numbers(counts), runs)
    if behind:
        lost[len(runs) - 1] = behind
    return schedule_of_runs(runs, lost)


def schedule_to_appear(line_counts, content):
    counts = checked_line_counts(line_counts)
    runs = checked_content(counts, content)
    if appearing_obstruction(runs) is not None:
        return None
    return schedule_of_runs(runs, lost_between_runs(no_numbers(counts), runs))


def next_lines(line_counts, content):
    counts = checked_line_counts(line_counts)
    runs = checked_content(counts, content)
    if appearing_obstruction(runs) is not None:
        return None
    latest = latest_numbers(no_numbers(counts), runs)
    found = []
    for writer in sorted(counts):
        first = latest[writer] + 1
        last = counts[writer]
        # An empty page, like the writer of the last line, allows only the very next line.
        if not runs or runs[-1][0] == writer:
            last = min(first, last)
        if first <= last:
            found.append((writer, first, last))
    return found
