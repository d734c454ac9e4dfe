"""What can still be on the page after a state, when all lines are saved (points 75 to 78)."""

from lastcopy.contents import (
    begins_with,
    common_prefix,
    cut,
    intervals_between,
    lines_of_runs,
    number_of_lines,
    with_run,
)
from lastcopy.final import (
    latest_numbers,
    lost_at_the_end,
    lost_between_runs,
    no_numbers,
    schedule_of_runs,
)


class State:
    """A state that some schedule produces. Nothing in it is changed."""

    def __init__(self, counts, saved, page, copies):
        self.counts = counts
        self.saved = saved
        self.page = page
        self.copies = copies

    def lines_left(self):
        return sum(self.counts.values()) - sum(self.saved.values())

    def writers_left(self):
        return [writer for writer in sorted(self.counts)
                if self.saved[writer] < self.counts[writer]]


def bases_of_state(state):
    """The possible bases: the holder of each one, None for the page, and its runs."""
    left = state.writers_left()
    found = []
    if not left or any([writer not in state.copies for writer in left]):
        found.append((None, list(state.page)))
    for holder in sorted(state.copies):
        found.append((holder, list(state.copies[holder])))
    return found


def guaranteed_in_state(state):
    bases = bases_of_state(state)
    shared = bases[0][1]
    for holder, runs in bases:
        # A line has the same lines before it in all contents of a state.
        shared = common_prefix(shared, runs)
    left = state.writers_left()
    if len(left) == 1:
        shared = shared + [(left[0], state.saved[left[0]] + 1, state.counts[left[0]])]
    return lines_of_runs(shared)


def lost_in_state(state):
    kept = lines_of_runs([run for holder, runs in bases_of_state(state) for run in runs])
    lost = {}
    for writer in sorted(state.saved):
        intervals = intervals_between(kept.get(writer, []), state.saved[writer])
        if intervals:
            lost[writer] = intervals
    return lost


def first_lines_behind(state, holder):
    """The lines that may be the first new line behind the base of a holder."""
    writers = [holder]
    if holder is None:
        writers = [writer for writer in state.writers_left() if writer not in state.copies]
    return [(writer, state.saved[writer] + 1) for writer in writers]


def first_new_line(base, runs):
    """The index of the run with the first line behind the base, and the number of this line."""
    at = len(base) - 1
    if base and base[at][2] < runs[at][2]:
        return (at, base[at][2] + 1)
    return (at + 1, runs[at + 1][1])


def obstruction_behind(state, holder, base, runs):
    """Why a content is not reachable behind this base, as a word and an index, or None."""
    if not state.writers_left():
        return None if runs == base else ("base", None)
    if not begins_with(runs, base) or runs == base:
        return ("base", None)
    start, number = first_new_line(base, runs)
    latest = latest_numbers(no_numbers(state.counts), runs[:start])
    for index in range(start, len(runs)):
        writer, first, last = runs[index]
        new = number if index == start else first
        if new <= max(state.saved[writer], latest[writer]):
            return ("decreasing", index)
        if index > 0 and runs[index - 1][0] == writer:
            return ("split", index)
        if index == start and (writer, new) not in first_lines_behind(state, holder):
            return ("next", index)
        if writer in state.copies and writer != holder and new == state.saved[writer] + 1:
            return ("copy", index)
        latest[writer] = last
    writer, first, last = runs[-1]
    return ("end", len(runs) - 1) if last != state.counts[writer] else None


def obstructions_in_state(state, runs):
    """An obstruction for each possible base, or None if the content is reachable."""
    found = []
    for holder, base in bases_of_state(state):
        obstruction = obstruction_behind(state, holder, base, runs)
        if obstruction is None:
            return None
        found.append((holder,) + obstruction)
    return found


def numbers_without(state, holder):
    """How many lines each writer has saved when all copies but that of the holder are saved."""
    return {writer: state.saved[writer] + (1 if writer in state.copies and writer != holder else 0)
            for writer in state.saved}


def actions_behind(state, holder, base, runs):
    """Actions from the state to a content that is reachable behind this base."""
    new = cut(runs, number_of_lines(base))[1]
    before = numbers_without(state, holder)
    lost = lost_between_runs(before, new)
    # The other copies must go before the first new line, which overwrites what they save.
    saves = [("save", other) for other in sorted(state.copies) if other != holder]
    if saves or holder is not None:
        lost[0] = saves + lost.get(0, [])
    behind = lost_at_the_end(state.counts, before, new)
    if behind:
        lost[len(new) - 1] = lost.get(len(new) - 1, []) + behind
    actions = schedule_of_runs(new, lost)
    # The holder of the base has read already.
    return actions if holder is None else actions[1:]


def actions_in_state(state, runs):
    """Actions from the state to a content, or None if it is not reachable."""
    for holder, base in bases_of_state(state):
        if obstruction_behind(state, holder, base, runs) is None:
            return actions_behind(state, holder, base, runs)
    return None


def add_longer(state, latest, runs, found):
    """Adds the contents that begin with these runs, the last of which has a new line at its end."""
    end = runs[-1][0]
    if runs[-1][2] == state.counts[end]:
        found.append(runs)
    for writer in sorted(state.counts):
        if writer != end:
            for first in range(latest[writer] + 1, state.counts[writer] + 1):
                for last in range(first, state.counts[writer] + 1):
                    numbers = latest_numbers(latest, [(writer, first, last)])
                    add_longer(state, numbers, runs + [(writer, first, last)], found)


def contents_in_state(state):
    """All reachable contents in ascending order. There are few lines left."""
    if not state.writers_left():
        return [list(state.page)]
    found = []
    for holder, base in bases_of_state(state):
        before = numbers_without(state, holder)
        for writer, first in first_lines_behind(state, holder):
            # If the base ends with a line of this writer, it is the writer's latest one.
            for last in range(first, state.counts[writer] + 1):
                run = (writer, first, last)
                add_longer(state, latest_numbers(before, [run]), with_run(base, run), found)
    return sorted(found)
