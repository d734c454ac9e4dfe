"""Schedules and save logs (points 13 to 18 of the document)."""

from lastcopy.arguments import (
    LARGEST_NUMBER,
    checked_line,
    checked_line_counts,
    continues,
    plain_integer,
    plain_line,
    plain_lines,
    plain_text,
    plain_writer,
)
from lastcopy.contents import intervals_between, lines_of_runs, with_run
from lastcopy.errors import InvalidAction, InvalidSaveOrder


class Save:
    """One save or one append: the lines of a run, saved behind the content before."""

    def __init__(self, index, run, before, is_overwrite):
        self.index = index
        self.run = run
        self.before = before
        self.is_overwrite = is_overwrite


def is_possible(action, left, has_copy):
    """Whether a writer with so many lines left, and perhaps a copy, can perform an action."""
    if action[0] == "save":
        return has_copy
    if has_copy:
        return False
    if action[0] == "read":
        return left > 0
    return action[2] <= left


class Replay:
    """What the actions so far have done.

    No list of runs is changed after it is made, so the page, the copies and the saves share them.
    """

    def __init__(self, counts):
        self.counts = counts
        self.saved = {writer: 0 for writer in counts}
        self.page = []
        self.copies = {}
        self.reads = {}
        self.saves = []

    def resume(self, saved, page, copies):
        """Lets the actions start from a state; its copies were read before all saves."""
        self.saved = dict(saved)
        self.page = page
        self.copies = dict(copies)
        self.reads = {writer: 0 for writer in copies}

    def can_perform(self, action):
        writer = action[1]
        return is_possible(action, self.counts[writer] - self.saved[writer], writer in self.copies)

    def state(self):
        copies = {writer: list(self.copies[writer]) for writer in self.copies}
        return (dict(self.saved), list(self.page), copies)

    def perform(self, index, action):
        writer = action[1]
        if action[0] == "read":
            self.copies[writer] = self.page
            self.reads[writer] = len(self.saves)
        elif action[0] == "save":
            before = self.copies.pop(writer)
            self.put(index, writer, 1, before, self.reads[writer] < len(self.saves))
        else:
            self.put(index, writer, action[2], self.page, False)

    def put(self, index, writer, count, before, is_overwrite):
        number = self.saved[writer]
        run = (writer, number + 1, number + count)
        self.saved[writer] = number + count
        self.page = with_run(before, run)
        self.saves.append(Save(index, run, before, is_overwrite))

    def save_of(self, line):
        """The save of a line, or None if the line was not saved."""
        for save in self.saves:
            writer, first, last = save.run
            if writer == line[0] and first <= line[1] <= last:
                return save
        return None


def plain_action(line_counts, value):
    """The action as a plain tuple, or None if the value, which may be any value, is none.

    Without line counts, actions of all writers are taken.
    """
    if type(value) != tuple or len(value) not in (2, 3):
        return None
    name = plain_text(value[0])
    writer = plain_writer(value[1])
    if writer is None or (line_counts is not None and writer not in line_counts):
        return None
    if len(value) == 2:
        return (name, writer) if name in ("read", "save") else None
    count = plain_integer(value[2])
    if name != "append" or count is None or not 1 <= count <= LARGEST_NUMBER:
        return None
    return (name, writer, count)


def perform_all(replay, actions):
    if type(actions) != list:
        raise InvalidAction(None)
    for index, item in enumerate(actions):
        action = plain_action(replay.counts, item)
        if action is None or not replay.can_perform(action):
            raise InvalidAction(index)
        replay.perform(index, action)


def replay_schedule(line_counts, schedule):
    replay = Replay(checked_line_counts(line_counts))
    perform_all(replay, schedule)
    return replay


def is_schedule(line_counts, value):
    try:
        replay_schedule(line_counts, value)
    except InvalidAction:
        return False
    return True


def state_after(line_counts, schedule):
    return replay_schedule(line_counts, schedule).state()


def page_history(line_counts, schedule):
    replay = replay_schedule(line_counts, schedule)
    return [[]] + [with_run(save.before, save.run) for save in replay.saves]


def last_line(runs):
    """The last line of a content; None stands for the empty page."""
    if not runs:
        return None
    return (runs[-1][0], runs[-1][2])


def line_and_save(line_counts, schedule, line):
    replay = replay_schedule(line_counts, schedule)
    wanted = checked_line(replay.counts, line)
    return (wanted, replay.save_of(wanted))


def find_save(line_counts, schedule, line):
    (writer, number), save = line_and_save(line_counts, schedule, line)
    if save is None:
        return None
    if number > save.run[1]:
        return (save.index, (writer, number - 1))
    return (save.index, last_line(save.before))


def content_at_save(line_counts, schedule, line):
    (writer, number), save = line_and_save(line_counts, schedule, line)
    if save is None:
        return None
    return with_run(save.before, (writer, save.run[1], number))


def count_overwrites(line_counts, schedule):
    replay = replay_schedule(line_counts, schedule)
    return len([save for save in replay.saves if save.is_overwrite])


def surviving_and_lost(line_counts, schedule):
    replay = replay_schedule(line_counts, schedule)
    surviving = lines_of_runs(replay.page)
    lost = {}
    for writer, number in replay.saved.items():
        intervals = intervals_between(surviving.get(writer, []), number)
        if intervals:
            lost[writer] = intervals
    return (surviving, lost)


def entry_continues(entry, following):
    return continues(entry, following) and following[3] == (entry[0], entry[2])


def save_log(line_counts, schedule):
    replay = replay_schedule(line_counts, schedule)
    log = []
    for save in replay.saves:
        entry = save.run + (last_line(save.before),)
        if log and entry_continues(log[-1], entry):
            writer, first, last, base = log.pop()
            entry = (writer, first, entry[2], base)
        log.append(entry)
    return log


def plain_entry(line_counts, value):
    """The log entry as a plain tuple, or None if the value, which may be any value, is none."""
    if type(value) != tuple or len(value) != 4:
        return None
    run = plain_lines(line_counts, value[0], value[1], value[2])
    base = plain_line(line_counts, value[3])
    if run is None or (base is None and value[3] is not None):
        return None
    return run + (base,)


def checked_log(line_counts, value):
    counts = checked_line_counts(line_counts)
    if type(value) != list:
        raise InvalidSaveOrder("a save log is a list")
    entries = []
    for item in value:
        entry = plain_entry(counts, item)
        if entry is None:
            raise InvalidSaveOrder("not an entry of a save log of these line counts")
        if entries and entry_continues(entries[-1], entry):
            raise InvalidSaveOrder("two neighbouring entries are one entry")
        entries.append(entry)
    return entries


def piece_with(pieces, number):
    """The last of some ascending pieces that starts at most at the number, or None."""
    low = 0
    high = len(pieces)
    while low < high:
        middle = (low + high) // 2
        if pieces[middle][0] <= number:
            low = middle + 1
        else:
            high = middle
    return pieces[low - 1] if low > 0 else None


class SaveTimes:
    """When lines are saved. The time of a save or a read is the number of lines saved before it.

    The lines of each writer are added in ascending order.
    """

    def __init__(self):
        self.total = 0
        self.pieces = {}

    def add_lines(self, writer, first, last):
        self.pieces.setdefault(writer, []).append((first, last, self.total))
        self.total += last - first + 1

    def latest(self, writer):
        return self.pieces[writer][-1][1] if writer in self.pieces else 0

    def save_time(self, line):
        piece = piece_with(self.pieces.get(line[0], []), line[1])
        if piece is None or line[1] > piece[1]:
            return None
        return piece[2] + line[1] - piece[0]

    def read_time(self, writer, base):
        """The time of a read that gives the writer this base, or None if the base is not allowed."""
        latest = self.latest(writer)
        if base is None:
            return 0 if latest == 0 else None
        time = self.save_time(base)
        if time is None:
            return None
        if latest > 0 and time < self.save_time((writer, latest)):
            return None
        return time + 1


def add_entries(saves, entries):
    """Adds the entries up to the first impossible one; returns the time of each one's first read."""
    found = []
    for writer, first, last, base in entries:
        time = saves.read_time(writer, base)
        if time is None or first != saves.latest(writer) + 1:
            return found
        found.append(time)
        saves.add_lines(writer, first, last)
    return found


def first_invalid_save(line_counts, log):
    entries = checked_log(line_counts, log)
    possible = len(add_entries(SaveTimes(), entries))
    if possible == len(entries):
        return None
    return possible


def early_readers(entries, times):
    """The writers that hold a copy while others save, by the time of the read."""
    readers = {}
    start = 0
    for entry, time in zip(entries, times):
        if time < start:
            readers.setdefault(time, []).append(entry[0])
        start += entry[2] - entry[1] + 1
    return readers


def stops_of_entries(entries, readers):
    """For each entry the times before its end at which others read, and its end."""
    reads = sorted(readers)
    at = 0
    end = 0
    found = []
    for writer, first, last, base in entries:
        end += last - first + 1
        stops = []
        while at < len(reads) and reads[at] < end:
            stops.append(reads[at])
            at += 1
        found.append(stops + [end])
    return found


def schedule_of_log(entries, held):
    """A schedule with this log, which is possible, after which the writers of held hold copies.

    The dict held has the last line of each copy.
    """
    saves = SaveTimes()
    times = add_entries(saves, entries)
    readers = early_readers(entries, times)
    for holder, line in held.items():
        readers.setdefault(saves.read_time(holder, line), []).append(holder)
    schedule = [("read", reader) for reader in readers.get(0, [])]
    done = 0
    for entry, time, stops in zip(entries, times, stops_of_entries(entries, readers)):
        writer = entry[0]
        if time < done:
            # A copy that was read early takes one line; the others follow by an append.
            schedule.append(("save", writer))
            done += 1
            schedule.extend([("read", reader) for reader in readers.get(done, [])])
        for stop in stops:
            if stop > done:
                schedule.append(("append", writer, stop - done))
                schedule.extend([("read", reader) for reader in readers.get(stop, [])])
                done = stop
    return schedule


def schedule_for_log(line_counts, log):
    entries = checked_log(line_counts, log)
    if len(add_entries(SaveTimes(), entries)) < len(entries):
        return None
    return schedule_of_log(entries, {})
