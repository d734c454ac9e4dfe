"""Checks obstructions, save orders and schedules of observations (points 62 to 64)."""

from lastcopy.arguments import checked_line_counts, plain_integer, plain_line, plain_text
from lastcopy.contents import cut, place_of, with_run
from lastcopy.errors import InvalidAction
from lastcopy.observations import checked_observations, pairs_of
from lastcopy.save_orders import plain_segments, totals_of
from lastcopy.schedules import last_line, replay_schedule


def plain_conflict(counts, contents, value):
    """The parts of a conflict, or None if the value has another form."""
    i = plain_integer(value[1])
    j = plain_integer(value[2])
    line = plain_line(counts, value[3])
    if i is None or j is None or line is None or not 0 <= i < j < len(contents):
        return None
    return (i, j, line)


def is_conflict(counts, contents, value):
    parts = plain_conflict(counts, contents, value)
    if parts is None:
        return False
    i, j, line = parts
    places = [place_of(contents[i], line), place_of(contents[j], line)]
    if None in places:
        return False
    return cut(contents[i], places[0] + 1)[0] != cut(contents[j], places[1] + 1)[0]


def plain_cycle(counts, value):
    """A list of different lines, one of which may be None, or None if the value is none."""
    if type(value) != list or not value:
        return None
    lines = []
    known = {}
    for item in value:
        line = plain_line(counts, item)
        if (line is None and item is not None) or line in known:
            return None
        known[line] = True
        lines.append(line)
    return lines


def leads_to(pairs, line, other):
    if (line, other) in pairs:
        return True
    if line is None or other is None:
        return other is not None
    return line[0] == other[0] and line[1] < other[1]


def is_cycle(counts, pairs, value):
    lines = plain_cycle(counts, value)
    if lines is None:
        return False
    return all([leads_to(pairs, lines[at - 1], lines[at]) for at in range(len(lines))])


def is_observation_obstruction(line_counts, observations, value, *, final=False):
    counts = checked_line_counts(line_counts)
    contents = checked_observations(counts, observations)
    if type(value) != tuple or len(value) not in (2, 4):
        return False
    name = plain_text(value[0])
    if len(value) == 4:
        return name == "conflict" and is_conflict(counts, contents, value)
    return name == "cycle" and is_cycle(counts, pairs_of(counts, contents, final), value[1])


def plain_complete_order(counts, value):
    """A save order of exactly all lines, or None if the value is none."""
    order = plain_segments(value)
    wanted = {writer: counts[writer] for writer in counts if counts[writer] > 0}
    return order if order is not None and totals_of(order) == wanted else None


def times_of_lines(order, lines):
    """How many lines are saved before each of these lines."""
    waiting = {}
    for writer, number in sorted(lines, reverse=True):
        waiting.setdefault(writer, []).append(number)
    done = {}
    times = {}
    total = 0
    for writer, count in order:
        before = done.get(writer, 0)
        numbers = waiting.get(writer, [])
        while numbers and numbers[-1] <= before + count:
            number = numbers.pop()
            times[(writer, number)] = total + number - before - 1
        done[writer] = before + count
        total += count
    return times


def satisfies_constraints(line_counts, observations, value, *, final=False):
    counts = checked_line_counts(line_counts)
    contents = checked_observations(counts, observations)
    order = plain_complete_order(counts, value)
    if order is None:
        return False
    pairs = pairs_of(counts, contents, final)
    times = times_of_lines(order, {line: True for pair in pairs for line in pair if line is not None})
    for earlier, later in pairs:
        if earlier is not None and (later is None or times[earlier] >= times[later]):
            return False
    return True


def time_on_page(replay, runs):
    """How many lines are saved when the content comes on the page, or None if it never does."""
    if not runs:
        return 0
    line = last_line(runs)
    total = 0
    for save in replay.saves:
        writer, first, last = save.run
        if writer == line[0] and first <= line[1] <= last:
            shown = with_run(save.before, (writer, first, line[1]))
            return total + line[1] - first + 1 if shown == runs else None
        total += last - first + 1
    return None


def is_observed_in(line_counts, value, observations, *, final=False):
    counts = checked_line_counts(line_counts)
    contents = checked_observations(counts, observations)
    try:
        replay = replay_schedule(counts, value)
    except InvalidAction:
        return False
    if replay.saved != counts or replay.copies:
        return False
    times = [time_on_page(replay, runs) for runs in contents]
    if None in times or times != sorted(times):
        return False
    return not final or times[-1] == sum(counts.values())
