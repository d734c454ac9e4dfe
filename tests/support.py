"""Values and line-by-line models that the tests share.

The models know nothing of the package: they expand every content to single lines.
"""

import collections
import itertools


class Prickly:
    """A value that refuses to be hashed, compared, measured, tested or iterated over."""

    __hash__ = None

    def refuse(self, *rest):
        raise RuntimeError("this value must not be touched")

    __eq__ = __ne__ = __lt__ = __le__ = __gt__ = __ge__ = refuse
    __bool__ = __len__ = __iter__ = __contains__ = __getitem__ = __index__ = __int__ = refuse


def endless_list():
    value = []
    value.append(value)
    return value


def deep_list():
    value = []
    for _ in range(100000):
        value = [value]
    return value


DEEP = deep_list()


def odd_values():
    """New values of many kinds, none of which the package takes for anything."""
    return [
        None, True, False, -1, 1.0, float("nan"), 2j, "", "a1", "ABC", "\u00e9", b"a", b"",
        object(), Prickly(), len, lambda: 1, int, {"a"}, {1}, frozenset(), range(3), iter([]),
        bytearray(b"a"), [None], [[]], [{}], [()], [Prickly()], (Prickly(),), {"a": Prickly()},
        {"a": [[]]}, {("a", 1): 1}, {None: None}, endless_list(), [DEEP],
        (DEEP, 1), ("a", DEEP), ("a", Prickly()), (Prickly(), 1),
    ]


def is_one_empty_content(value):
    """Whether an odd value is a list of one empty content, which is an observation."""
    return type(value) is list and len(value) == 1 and type(value[0]) in (list, tuple) and not value[0]


def expand(content):
    return [(writer, number) for writer, first, last in content
            for number in range(first, last + 1)]


def compress(lines):
    runs = []
    for writer, number in lines:
        if runs and runs[-1][0] == writer and runs[-1][2] == number - 1:
            runs[-1] = (writer, runs[-1][1], number)
        else:
            runs.append((writer, number, number))
    return runs


def line_set_of(lines):
    found = {}
    for writer, number in sorted(set(lines)):
        intervals = found.setdefault(writer, [])
        if intervals and intervals[-1][1] == number - 1:
            intervals[-1] = (intervals[-1][0], number)
        else:
            intervals.append((number, number))
    return found


class Model:
    """A page that is kept line by line. It fails when an action is not possible."""

    def __init__(self, line_counts):
        self.line_counts = line_counts
        self.saved = {writer: 0 for writer in line_counts}
        self.page = []
        self.copies = {}
        self.fresh = {}
        self.history = [[]]
        self.saves = []
        self.overwriting = []
        self.most_copies = 0

    def left(self, writer):
        return self.line_counts[writer] - self.saved[writer]

    def save_one(self, index, writer, copy):
        self.saved[writer] += 1
        line = (writer, self.saved[writer])
        self.page = copy + [line]
        base = copy[-1] if copy else None
        self.saves.append((line, index, base, self.page))
        for holder in self.fresh:
            self.fresh[holder] = False

    def perform(self, index, action):
        writer = action[1]
        if action[0] == "read":
            assert writer not in self.copies and self.left(writer) > 0
            self.copies[writer] = self.page
            self.fresh[writer] = True
            self.most_copies = max(self.most_copies, len(self.copies))
        elif action[0] == "save":
            assert writer in self.copies
            copy = self.copies.pop(writer)
            if not self.fresh.pop(writer):
                self.overwriting.append((writer, self.saved[writer] + 1))
            self.save_one(index, writer, copy)
            self.history.append(self.page)
        else:
            assert writer not in self.copies and 1 <= action[2] <= self.left(writer)
            for _ in range(action[2]):
                self.save_one(index, writer, self.page)
            self.history.append(self.page)

    def log(self):
        entries = []
        for (writer, number), _, base, _ in self.saves:
            if entries and base == (writer, number - 1) == (entries[-1][0], entries[-1][2]):
                entries[-1] = (writer, entries[-1][1], number, entries[-1][3])
            else:
                entries.append((writer, number, number, base))
        return entries


def model_after(line_counts, schedule):
    model = Model(line_counts)
    for index, action in enumerate(schedule):
        model.perform(index, action)
    return model


def impossible_position(line_counts, schedule):
    model = Model(line_counts)
    for index, action in enumerate(schedule):
        try:
            model.perform(index, action)
        except AssertionError:
            return index
    return None


def random_schedule(chance, line_counts, length, longest_append=1000):
    model = Model(line_counts)
    schedule = []
    for index in range(length):
        choices = []
        for writer in line_counts:
            if writer in model.copies:
                choices.append(("save", writer))
            elif model.left(writer) > 0:
                choices.append(("read", writer))
                choices.append(("append", writer,
                                chance.randint(1, min(longest_append, model.left(writer)))))
                choices.append(("append", writer, 1))
        if not choices:
            break
        action = chance.choice(choices)
        model.perform(index, action)
        schedule.append(action)
    return schedule


def random_content(chance, line_counts, most_runs):
    """Any content, also one that repeats lines or goes down."""
    writers = [writer for writer in line_counts if line_counts[writer] > 0]
    lines = []
    for _ in range(chance.randint(0, most_runs)):
        writer = chance.choice(writers)
        first = chance.randint(1, line_counts[writer])
        last = chance.randint(first, line_counts[writer])
        lines.extend((writer, number) for number in range(first, last + 1))
    return compress(lines)


def random_appearing(chance, counts, most_runs):
    """A content that can appear, made run by run."""
    runs = []
    latest = dict.fromkeys(counts, 0)
    for _ in range(chance.randint(0, most_runs)):
        writers = [writer for writer in counts if latest[writer] < counts[writer]
                   and not (runs and runs[-1][0] == writer)]
        if not writers:
            break
        writer = chance.choice(writers)
        first = 1 if not runs else chance.randint(latest[writer] + 1, counts[writer])
        latest[writer] = chance.randint(first, counts[writer])
        runs.append((writer, first, latest[writer]))
    return runs


def random_final(chance, counts, most_runs):
    """A content that can be final."""
    runs = random_appearing(chance, counts, most_runs)
    if runs:
        writer, first, _ = runs[-1]
        runs[-1] = (writer, first, counts[writer])
    elif any(counts.values()):
        writer = chance.choice([writer for writer in counts if counts[writer] > 0])
        runs = [(writer, 1, counts[writer])]
    return runs


def all_contents(line_counts, longest):
    """All contents of at most so many lines, each as a tuple of lines."""
    lines = [(writer, number) for writer in line_counts
             for number in range(1, line_counts[writer] + 1)]
    found = layer = [()]
    for _ in range(longest):
        layer = [content + (line,) for content in layer for line in lines]
        found = found + layer
    return found


def steps(state, line_counts):
    """The states one read or one save after a state; an append is reads and saves."""
    saved, page, copies = state
    for at, (writer, count) in enumerate(sorted(line_counts.items())):
        if copies[at] is not None:
            line = (writer, saved[at] + 1)
            yield (saved[:at] + (saved[at] + 1,) + saved[at + 1:], copies[at] + (line,),
                   copies[:at] + (None,) + copies[at + 1:])
        elif saved[at] < count:
            yield (saved, page, copies[:at] + (page,) + copies[at + 1:])


def search_contents(line_counts):
    """Two sets of tuples of lines: what is ever on the page, and what is there at the end."""
    start = ((0,) * len(line_counts), (), (None,) * len(line_counts))
    full = tuple(line_counts[writer] for writer in sorted(line_counts))
    seen = {start}
    waiting = [start]
    while waiting:
        for state in steps(waiting.pop(), line_counts):
            if state not in seen:
                seen.add(state)
                waiting.append(state)
    pages = {page for _, page, _ in seen}
    finals = {page for saved, page, copies in seen
              if saved == full and copies == (None,) * len(line_counts)}
    return pages, finals


def search_overwrites(line_counts):
    """From each content at the end, a tuple of lines, to the least number of overwrites."""
    writers = sorted(line_counts)
    start = (((0,) * len(writers), (), (None,) * len(writers)), (False,) * len(writers))
    least = {start: 0}
    waiting = collections.deque([start])
    while waiting:
        state, stale = waiting.popleft()
        cost = least[state, stale]
        for after in steps(state, line_counts):
            saver = [at for at in range(len(writers)) if after[0][at] != state[0][at]]
            if saver:
                # Every other copy is stale now; the saver holds none.
                marks = tuple(copy is not None for copy in after[2])
                price = cost + stale[saver[0]]
            else:
                marks = stale
                price = cost
            if price < least.get((after, marks), price + 1):
                least[after, marks] = price
                waiting.append((after, marks))
    found = {}
    for ((saved, page, copies), _), cost in least.items():
        if list(saved) == [line_counts[writer] for writer in writers]:
            found[page] = min(cost, found.get(page, cost))
    return found


def search_atomic(line_counts, atomic):
    """What is on the page at the end of schedules in which these lines overwrite nothing."""
    writers = sorted(line_counts)
    start = (((0,) * len(writers), (), (None,) * len(writers)), (False,) * len(writers))
    seen = {start}
    waiting = [start]
    finals = set()
    while waiting:
        state, stale = waiting.pop()
        if list(state[0]) == [line_counts[writer] for writer in writers]:
            finals.add(state[1])
        for after in steps(state, line_counts):
            saver = [at for at in range(len(writers)) if after[0][at] != state[0][at]]
            marks = stale
            if saver:
                if stale[saver[0]] and (writers[saver[0]], after[0][saver[0]]) in atomic:
                    continue
                marks = tuple(copy is not None for copy in after[2])
            if (after, marks) not in seen:
                seen.add((after, marks))
                waiting.append((after, marks))
    return finals


def all_line_sets(line_counts):
    """All sets of lines, each as a tuple of lines."""
    lines = [(writer, number) for writer in sorted(line_counts)
             for number in range(1, line_counts[writer] + 1)]
    return [chosen for size in range(len(lines) + 1)
            for chosen in itertools.combinations(lines, size)]


def model_gap_counts(counts, lines):
    found = {}
    for writer in sorted(counts):
        missing = [number for number in range(1, counts[writer] + 1)
                   if (writer, number) not in lines]
        found[writer] = sum(number - 1 not in missing for number in missing)
    return found


def model_survival_obstructions(counts, lines):
    """All obstructions that apply to a set of single lines, in the order of point 34."""
    if not any(counts.values()):
        return []
    firsts = [line for line in sorted(lines) if line[1] == 1]
    lasts = [line for line in sorted(lines) if line[1] == counts[line[0]]]
    found = []
    if not firsts:
        found.append(("no first",))
    if not lasts:
        found.append(("no last",))
    if len(firsts) == len(lasts) == 1 and firsts == lasts and len(lines) > 1:
        found.append(("single end", firsts[0]))
    for writer, many in model_gap_counts(counts, lines).items():
        others = sum(line[0] != writer for line in lines)
        if many > others:
            found.append(("gaps", writer, many, others))
    return found


def search_logs(line_counts):
    """The save logs of all schedules, each as a tuple of entries."""
    writers = sorted(line_counts)
    found = set()
    seen = set()
    waiting = [((), None, (False,) * len(writers), (None,) * len(writers))]
    while waiting:
        state = waiting.pop()
        if state in seen:
            continue
        seen.add(state)
        saves, page_end, holds, copies = state
        model = Model(line_counts)
        model.saves = [(line, 0, base, []) for line, base in saves]
        found.add(tuple(model.log()))
        for at, writer in enumerate(writers):
            number = 1 + sum(line[0] == writer for line, _ in saves)
            if holds[at]:
                line = (writer, number)
                waiting.append((saves + ((line, copies[at]),), line,
                                holds[:at] + (False,) + holds[at + 1:],
                                copies[:at] + (None,) + copies[at + 1:]))
            elif number <= line_counts[writer]:
                waiting.append((saves, page_end, holds[:at] + (True,) + holds[at + 1:],
                                copies[:at] + (page_end,) + copies[at + 1:]))
    return found
