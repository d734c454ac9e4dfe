"""Searches over all schedules of small line counts, and checks line by line, for the tests.

They know nothing of the package. A content is a tuple of lines here.
"""

import functools
import itertools

from tests.support import Model, expand, search_logs, steps


def lines_of(counts):
    return [(writer, number) for writer in sorted(counts)
            for number in range(1, counts[writer] + 1)]


class History:
    """What is on the page over time: the order of the saves, and the content after each save."""

    def __init__(self, log):
        self.order = []
        self.bases = {}
        contents = {None: ()}
        self.contents = [()]
        for writer, first, last, base in log:
            for number in range(first, last + 1):
                line = (writer, number)
                self.bases[line] = base if number == first else (writer, number - 1)
                contents[line] = contents[self.bases[line]] + (line,)
                self.order.append(line)
                self.contents.append(contents[line])
        self.order = tuple(self.order)
        self.places = {content: place for place, content in enumerate(self.contents)}

    def shows(self, observations, final):
        """Whether the contents, tuples of lines, are on the page at times that never decrease."""
        places = [self.places.get(content) for content in observations]
        if None in places or places != sorted(places):
            return False
        return not final or places[-1] == len(self.order)


@functools.lru_cache(maxsize=None)
def histories_of(items):
    counts = dict(items)
    total = sum(counts.values())
    logs = [log for log in sorted(search_logs(counts), key=repr)
            if sum(entry[2] - entry[1] + 1 for entry in log) == total]
    return [History(log) for log in logs]


def complete_histories(counts):
    """All histories in which every line is saved."""
    return histories_of(tuple(sorted(counts.items())))


def model_times(counts, schedule):
    """The contents after each single save of a schedule, as tuples of lines, and the model."""
    model = Model(counts)
    for index, action in enumerate(schedule):
        model.perform(index, action)
    return [()] + [tuple(page) for _, _, _, page in model.saves], model


def model_shows(counts, schedule, observations, final):
    """Whether a schedule of possible actions shows the observations."""
    contents, model = model_times(counts, schedule)
    if model.saved != counts or model.copies:
        return False
    at = 0
    for observed in observations:
        wanted = tuple(expand(observed))
        while at < len(contents) and contents[at] != wanted:
            at += 1
        if at == len(contents):
            return False
    return not final or contents[-1] == tuple(expand(observations[-1]))


def rank(line):
    return ("", 0) if line is None else line


def model_constraints(counts, observations, final):
    """The constraints of point 60, word by word."""
    found = set()
    for content in observations:
        before = None
        for writer, first, last in content:
            first_line = (writer, first)
            found.add((before, first_line))
            if first > 1 and before != (writer, first - 1):
                found.add(((writer, first - 1), before))
            before = (writer, last)
    ends = [expand(content)[-1] if content else None for content in observations]
    for at in range(1, len(observations)):
        if list(observations[at - 1]) != list(observations[at]):
            found.add((ends[at - 1], ends[at]))
    if final:
        for writer, count in counts.items():
            if count and (writer, count) != ends[-1]:
                found.add(((writer, count), ends[-1]))
    return sorted(found, key=lambda pair: (rank(pair[0]), rank(pair[1])))


def model_satisfies(constraints, order):
    """Whether an order of all lines satisfies the constraints."""
    times = {line: time for time, line in enumerate(order)}
    return all(earlier is None or (later is not None and times[earlier] < times[later])
               for earlier, later in constraints)


def all_orders(counts):
    """All orders of all lines in which each writer's lines ascend."""
    writers = [writer for writer, _ in lines_of(counts)]
    found = []
    for sequence in sorted(set(itertools.permutations(writers))):
        done = dict.fromkeys(counts, 0)
        order = []
        for writer in sequence:
            done[writer] += 1
            order.append((writer, done[writer]))
        found.append(tuple(order))
    return found


def order_of_segments(segments):
    done = {}
    order = []
    for writer, count in segments:
        for _ in range(count):
            done[writer] = done.get(writer, 0) + 1
            order.append((writer, done[writer]))
    return tuple(order)


def segments_of_order(order):
    segments = []
    for writer, _ in order:
        if segments and segments[-1][0] == writer:
            segments[-1] = (writer, segments[-1][1] + 1)
        else:
            segments.append((writer, 1))
    return segments


def model_conflicts(observations):
    """All conflicts of point 62, word by word."""
    found = []
    contents = [expand(content) for content in observations]
    for i, j in itertools.combinations(range(len(contents)), 2):
        for line in sorted(set(contents[i]) & set(contents[j])):
            one = contents[i][:contents[i].index(line) + 1]
            other = contents[j][:contents[j].index(line) + 1]
            if one != other:
                found.append(("conflict", i, j, line))
    return found


def model_leads(pairs, line, other):
    if (line, other) in pairs:
        return True
    if line is None:
        return other is not None
    return other is not None and line[0] == other[0] and line[1] < other[1]


def model_is_cycle(counts, pairs, lines):
    if len(set(lines)) != len(lines) or not lines:
        return False
    if not set(lines) <= set(lines_of(counts)) | {None}:
        return False
    return all(model_leads(pairs, lines[at - 1], lines[at]) for at in range(len(lines)))


def all_states(counts):
    """All states that schedules produce: numbers of saved lines, the page, and the copies."""
    start = ((0,) * len(counts), (), (None,) * len(counts))
    seen = {start}
    waiting = [start]
    while waiting:
        for state in steps(waiting.pop(), counts):
            if state not in seen:
                seen.add(state)
                waiting.append(state)
    return sorted(seen, key=repr)


def all_finals(counts):
    """From each state to the contents that can be on the page after all lines are saved."""
    full = tuple(counts[writer] for writer in sorted(counts))
    found = {}

    def finals(state):
        if state not in found:
            if state[0] == full:
                found[state] = frozenset([state[1]])
            else:
                found[state] = frozenset().union(*[finals(after) for after in steps(state, counts)])
        return found[state]

    for state in all_states(counts):
        finals(state)
    return found
