"""Line sets that can survive (points 32 to 38 of the document)."""

from lastcopy.arguments import checked_content, checked_line_counts, checked_line_set
from lastcopy.contents import intervals_between, lines_of_runs, with_run


def lines_in_intervals(intervals):
    return sum([last - first + 1 for first, last in intervals])


def gaps_of_writers(counts, line_set):
    """For every writer the intervals of its lines that are not in the line set."""
    return {writer: intervals_between(line_set.get(writer, []), counts[writer])
            for writer in counts}


def lost_lines(line_counts, line_set):
    counts = checked_line_counts(line_counts)
    lines = checked_line_set(counts, line_set)
    return {writer: intervals for writer, intervals in gaps_of_writers(counts, lines).items()
            if intervals}


def gap_counts(line_counts, line_set):
    counts = checked_line_counts(line_counts)
    lines = checked_line_set(counts, line_set)
    return {writer: len(intervals) for writer, intervals in gaps_of_writers(counts, lines).items()}


def obstructions_of_ends(counts, lines):
    firsts = [(writer, 1) for writer in lines if lines[writer][0][0] == 1]
    lasts = [(writer, counts[writer]) for writer in lines
             if lines[writer][-1][1] == counts[writer]]
    total = sum([lines_in_intervals(intervals) for intervals in lines.values()])
    found = []
    if not firsts:
        found.append(("no first",))
    if not lasts:
        found.append(("no last",))
    if len(firsts) == 1 and firsts == lasts and total > 1:
        found.append(("single end", firsts[0]))
    return found


def obstructions_of_gaps(counts, lines):
    numbers = {writer: lines_in_intervals(lines.get(writer, [])) for writer in counts}
    total = sum(numbers.values())
    found = []
    for writer, intervals in gaps_of_writers(counts, lines).items():
        others = total - numbers[writer]
        if len(intervals) > others:
            found.append(("gaps", writer, len(intervals), others))
    return found


def survival_obstructions(counts, lines):
    """All obstructions that apply, in the order in which they are tried."""
    if sum(counts.values()) == 0:
        return []
    return obstructions_of_ends(counts, lines) + obstructions_of_gaps(counts, lines)


def survival_obstruction(line_counts, line_set):
    counts = checked_line_counts(line_counts)
    lines = checked_line_set(counts, line_set)
    found = survival_obstructions(counts, lines)
    return found[0] if found else None


def can_survive(line_counts, line_set):
    return survival_obstruction(line_counts, line_set) is None


class Waiting:
    """The lines of one writer that are not yet in the content.

    A writer is blocked while its next line, or the end of the content, needs a line of another
    writer before it. Its gaps are those that still need such a line.
    """

    def __init__(self, writer, intervals, count):
        self.writer = writer
        self.intervals = intervals
        self.lines = lines_in_intervals(intervals)
        self.gaps = len(intervals_between(intervals, count))
        self.has_last = intervals[-1][1] == count
        self.is_blocked = intervals[0][0] > 1

    def take(self, number):
        """The run of so many lines of the first interval."""
        first, last = self.intervals[0]
        end = first + number - 1
        self.lines -= number
        self.intervals = self.intervals[1:]
        if end < last:
            self.intervals = [(end + 1, last)] + self.intervals
        else:
            self.is_blocked = bool(self.intervals) or not self.has_last
        return (self.writer, first, end)

    def let_another_pass(self):
        if self.is_blocked:
            self.is_blocked = False
            self.gaps -= 1

    def spare_lines(self, total):
        """How many more lines of other writers are left than the gaps need."""
        return total - self.lines - self.gaps

    def longest_run(self, holders, total):
        """How many lines may be taken now; the only last line is kept for the end."""
        first, last = self.intervals[0]
        is_kept = holders == [self.writer] and len(self.intervals) == 1 and self.lines < total
        return last - first if is_kept else last - first + 1


def next_run(waiting, total):
    """The next run of the content.

    A writer that is not blocked and has no line of others to spare must come now; as the line
    set can survive, there is at most one such writer. Otherwise any writer may come, until
    another one has no line to spare.
    """
    holders = [each.writer for each in waiting if each.lines > 0 and each.has_last]
    free = [each for each in waiting if each.lines > 0 and not each.is_blocked]
    urgent = [each for each in free if each.spare_lines(total) == 0]
    able = [each for each in free if each.longest_run(holders, total) > 0]
    chosen = (urgent + able)[0]
    number = chosen.longest_run(holders, total)
    others = [each for each in waiting if each.writer != chosen.writer]
    for other in others:
        # The first line of the run ends the gap of a blocked writer, which needs one line less then.
        room = other.spare_lines(total) + (1 if other.is_blocked else 0)
        number = min(number, room)
    for other in others:
        other.let_another_pass()
    return chosen.take(number)


def content_for(line_counts, line_set):
    counts = checked_line_counts(line_counts)
    lines = checked_line_set(counts, line_set)
    if survival_obstructions(counts, lines):
        return None
    waiting = [Waiting(writer, lines[writer], counts[writer]) for writer in sorted(lines)]
    total = sum([each.lines for each in waiting])
    runs = []
    while total > 0:
        run = next_run(waiting, total)
        runs = with_run(runs, run)
        total -= run[2] - run[1] + 1
    return runs


def lines_in_content(content):
    runs = checked_content(None, content)
    return lines_of_runs(runs)
