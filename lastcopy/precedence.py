"""Which line must be saved before which other one.

A pair (earlier, later) of lines says that the earlier one is saved first. None stands for the
empty page, which is there before all saves; a pair that ends with None cannot hold. The lines of
each writer are always saved in ascending order.
"""


def pairs_of_bases(contents):
    """The pairs that follow from the bases in some contents, as the keys of a dict."""
    pairs = {}
    for runs in contents:
        base = None
        for writer, first, last in runs:
            pairs[(base, (writer, first))] = True
            if first > 1:
                # A writer reads after its previous save; its own line is not the base here.
                pairs[((writer, first - 1), base)] = True
            base = (writer, last)
    return pairs


def pairs_with_last(counts, line):
    """The pairs that say that a line, or None, is the last one of all."""
    latest = [(writer, counts[writer]) for writer in counts if counts[writer] > 0]
    return {(other, line): True for other in latest if other != line}


def bases_of(contents):
    """The base of the first line of each run, by that line."""
    bases = {}
    for runs in contents:
        base = None
        for writer, first, last in runs:
            bases[(writer, first)] = base
            base = (writer, last)
    return bases


def have_one_base_each(contents):
    """Whether no line has two different bases in the contents."""
    bases = bases_of(contents)
    for runs in contents:
        base = None
        for writer, first, last in runs:
            if bases[(writer, first)] != base:
                return False
            base = (writer, last)
    # Inside a run, the base of a line is the line before it; in a line that starts a run it is not.
    writer = ""
    start = 0
    reach = 0
    for name, first, last in sorted(set([run for runs in contents for run in runs])):
        if name != writer:
            writer = name
            reach = 0
        elif first != start and first <= reach:
            return False
        start = first
        reach = max(reach, last)
    return True


def following_lines(pairs, lines):
    """For each line of the pairs, and each further line, the lines that directly follow it."""
    known = [line for pair in pairs for line in pair if line is not None] + lines
    ascending = sorted({line: True for line in known})
    after = {line: [] for line in ascending}
    for at in range(1, len(ascending)):
        if ascending[at - 1][0] == ascending[at][0]:
            after[ascending[at - 1]].append(ascending[at])
    for earlier, later in pairs:
        if earlier is not None and later is not None:
            after[earlier].append(later)
    return after


def turned_around(after):
    """For each line the lines that it directly follows."""
    before = {line: [] for line in after}
    for line, following in after.items():
        for later in following:
            before[later].append(line)
    return before


def lines_in_order(after):
    """The lines in a possible order, without those on a cycle and those that follow them."""
    missing = {line: len(earlier) for line, earlier in turned_around(after).items()}
    ready = [line for line in reversed(list(after)) if missing[line] == 0]
    order = []
    while ready:
        line = ready.pop()
        order.append(line)
        for later in after[line]:
            missing[later] -= 1
            if missing[later] == 0:
                ready.append(later)
    return order


def possible_order(pairs):
    """All lines of the pairs in an order that fits them, or None if there is none."""
    if any([later is None for earlier, later in pairs]):
        return None
    after = following_lines(pairs, [])
    order = lines_in_order(after)
    return order if len(order) == len(after) else None


def cycle_of(pairs):
    """Lines that each must be saved before the next one, and the last one before the first one.

    There is a cycle among the pairs. If a line comes before None, None leads to every line.
    """
    for earlier, later in pairs:
        if later is None:
            return [None, earlier]
    after = following_lines(pairs, [])
    done = {line: True for line in lines_in_order(after)}
    # Each line that is not done follows another one, so going back comes to a cycle.
    before = {later: line for line, following in after.items() if line not in done
              for later in following}
    path = []
    places = {}
    line = [other for other in after if other not in done][0]
    while line not in places:
        places[line] = len(path)
        path.append(line)
        line = before[line]
    return path[places[line]:][::-1]


def lines_reached(after, start):
    """The line itself and all lines to which it leads, as the keys of a dict."""
    reached = {start: True}
    waiting = [start]
    while waiting:
        line = waiting.pop()
        for later in after[line]:
            if later not in reached:
                reached[later] = True
                waiting.append(later)
    return reached


def segments_of(counts, order):
    """The save order of all lines in which these lines come in this order.

    The lines of a writer before one of these are saved directly before it, the others at the end.
    """
    segments = []
    done = {writer: 0 for writer in counts}
    for writer, number in order + [(writer, counts[writer]) for writer in counts]:
        count = number - done[writer]
        if count > 0 and segments and segments[-1][0] == writer:
            segments[-1] = (writer, segments[-1][1] + count)
        elif count > 0:
            segments.append((writer, count))
        done[writer] = max(done[writer], number)
    return segments


def log_of_segments(segments, bases):
    """The save log with the lines in the order of some segments, and with these bases.

    A line without a base among them has its writer's previous line as its base. The segments come
    from an order that fits the bases, so inside a segment each line has the line before it.
    """
    log = []
    done = {}
    for writer, count in segments:
        before = done.get(writer, 0)
        done[writer] = before + count
        line = (writer, before + 1)
        base = (writer, before) if before > 0 else None
        log.append((writer, before + 1, before + count, bases[line] if line in bases else base))
    return log
