"""Values as texts (points 90 to 92 of the document)."""

from lastcopy.arguments import (
    LARGEST_NUMBER,
    MOST_WRITERS,
    checked_content,
    checked_line_counts,
    checked_line_set,
    continues,
    plain_content,
    plain_line_counts,
    plain_lines,
    plain_text,
    plain_writer,
)
from lastcopy.errors import InvalidAction, InvalidFormat, InvalidState
from lastcopy.schedules import plain_action

MOST_DIGITS = 31
WORD_GAP = " "
ACTION_GAP = ", "
PART_GAP = " | "


def text_of_line_counts(counts):
    return WORD_GAP.join([f"{writer}{counts[writer]}" for writer in sorted(counts)])


def text_of_lines(writer, first, last):
    return f"{writer}{first}" if first == last else f"{writer}{first}-{last}"


def text_of_runs(runs):
    return WORD_GAP.join([text_of_lines(writer, first, last) for writer, first, last in runs])


def text_of_line_set(line_set):
    return text_of_runs([(writer, first, last) for writer in sorted(line_set)
                         for first, last in line_set[writer]])


def text_of_actions(actions):
    return ACTION_GAP.join([WORD_GAP.join([str(part) for part in action]) for action in actions])


def text_of_state(saved, page, copies):
    parts = [text_of_line_counts(saved), text_of_runs(page)]
    for holder in sorted(copies):
        parts.append(f"{holder}: {text_of_runs(copies[holder])}" if copies[holder] else f"{holder}:")
    return PART_GAP.join(parts)


def plain_parts_of_state(value):
    """The saved counts, the page and the copies, or None if the value has another form."""
    if type(value) != tuple or len(value) != 3 or not isinstance(value[2], dict):
        return None
    saved = plain_line_counts(value[0])
    page = plain_content(None, value[1])
    if saved is None or page is None:
        return None
    copies = {}
    for key, item in value[2].items():
        holder = plain_writer(key)
        runs = plain_content(None, item)
        if holder not in saved or runs is None:
            return None
        copies[holder] = runs
    return (saved, page, copies)


def format_line_counts(line_counts):
    return text_of_line_counts(checked_line_counts(line_counts))


def format_content(content):
    return text_of_runs(checked_content(None, content))


def format_line_set(line_set):
    return text_of_line_set(checked_line_set(None, line_set))


def format_schedule(schedule):
    if type(schedule) != list:
        raise InvalidAction(None)
    actions = []
    for index, item in enumerate(schedule):
        action = plain_action(None, item)
        if action is None:
            raise InvalidAction(index)
        actions.append(action)
    return text_of_actions(actions)


def format_state(state):
    parts = plain_parts_of_state(state)
    if parts is None:
        raise InvalidState("not a tuple of line counts, a content and a dict of contents")
    saved, page, copies = parts
    return text_of_state(saved, page, copies)


def digits_in(text):
    """The number of some digits, or None for another text."""
    if not 1 <= len(text) <= MOST_DIGITS or not text.isascii() or not text.isdigit():
        return None
    if text[0] == "0" and text != "0":
        return None
    return int(text)


def writer_and_rest(word):
    end = 0
    while end < len(word) and "a" <= word[end] <= "z":
        end += 1
    return (word[:end], word[end:])


def count_in(word):
    """The writer and its count, or None for another word."""
    name, rest = writer_and_rest(word)
    count = digits_in(rest)
    if plain_writer(name) is None or count is None or count > LARGEST_NUMBER:
        return None
    return (name, count)


def run_in(word):
    """The run of a word, or None for another word."""
    writer, rest = writer_and_rest(word)
    start, dash, end = rest.partition("-")
    first = digits_in(start)
    last = digits_in(end) if dash else first
    if dash and first == last:
        return None
    return plain_lines(None, writer, first, last)


def words_of(text, gap):
    """The words of a text, none for the empty one; any gap too many makes an empty word."""
    plain = plain_text(text)
    if plain is None:
        raise InvalidFormat(None)
    return plain.split(gap) if plain else []


def parse_line_counts(text):
    counts = {}
    before = ""
    words = words_of(text, WORD_GAP)
    for index, word in enumerate(words):
        found = count_in(word)
        if found is None or found[0] <= before or index >= MOST_WRITERS:
            raise InvalidFormat(index)
        counts[found[0]] = found[1]
        before = found[0]
    if not words:
        raise InvalidFormat(0)
    return counts


def parse_content(text):
    runs = []
    for index, word in enumerate(words_of(text, WORD_GAP)):
        run = run_in(word)
        if run is None or (runs and continues(runs[-1], run)):
            raise InvalidFormat(index)
        runs.append(run)
    return runs


def parse_line_set(text):
    line_set = {}
    before = ("", 0, 0)
    for index, word in enumerate(words_of(text, WORD_GAP)):
        run = run_in(word)
        # Between two intervals of a writer is at least one line.
        if run is None or run[:2] <= (before[0], before[2] + 1):
            raise InvalidFormat(index)
        line_set.setdefault(run[0], []).append((run[1], run[2]))
        before = run
    return line_set


def action_in(text):
    """The action of a text, or None for another text."""
    words = text.split(WORD_GAP)
    if len(words) == 2:
        return plain_action(None, (words[0], words[1]))
    if len(words) == 3:
        return plain_action(None, (words[0], words[1], digits_in(words[2])))
    return None


def parse_schedule(text):
    actions = []
    for index, part in enumerate(words_of(text, ACTION_GAP)):
        action = action_in(part)
        if action is None:
            raise InvalidFormat(index)
        actions.append(action)
    return actions


def holder_and_copy(part):
    """The holder and the copy of a part of a state."""
    holder, colon, rest = part.partition(":")
    if not colon or (rest and (rest[0] != WORD_GAP or rest == WORD_GAP)):
        raise InvalidFormat(0)
    return (holder, parse_content(rest[1:]))


def part_of_state(index, part, before):
    """The value of a part, behind the values of the parts before it."""
    if index == 0:
        return parse_line_counts(part)
    if index == 1:
        return parse_content(part)
    holder, runs = holder_and_copy(part)
    if holder not in before[0] or (index > 2 and holder <= before[index - 1][0]):
        raise InvalidFormat(index)
    return (holder, runs)


def parse_state(text):
    parts = words_of(text, PART_GAP)
    found = []
    for index, part in enumerate(parts):
        try:
            found.append(part_of_state(index, part, found))
        except InvalidFormat:
            # A part is one word of a state, wherever it is wrong.
            raise InvalidFormat(index) from None
    if len(parts) < 2:
        raise InvalidFormat(len(parts))
    return (found[0], found[1], dict(found[2:]))
