"""States, and what can still happen from them (points 72 to 78 of the document)."""

from lastcopy.arguments import (
    checked_content,
    checked_line_counts,
    plain_content,
    plain_integer,
    plain_writer,
)
from lastcopy.errors import InvalidState, TooManyResults
from lastcopy.precedence import (
    bases_of,
    have_one_base_each,
    log_of_segments,
    pairs_of_bases,
    pairs_with_last,
    possible_order,
    segments_of,
)
from lastcopy.reachable import (
    State,
    actions_in_state,
    bases_of_state,
    contents_in_state,
    guaranteed_in_state,
    lost_in_state,
    obstructions_in_state,
)
from lastcopy.schedules import Replay, last_line, perform_all, schedule_of_log

MOST_LINES_LEFT = 7


def plain_saved(counts, value):
    """The number of saved lines of every writer, or None if the value has another form."""
    if not isinstance(value, dict) or len(value) != len(counts):
        return None
    found = {}
    for key, item in value.items():
        writer = plain_writer(key)
        number = plain_integer(item)
        if writer not in counts or number is None or not 0 <= number <= counts[writer]:
            return None
        found[writer] = number
    return {writer: found[writer] for writer in counts}


def plain_copies(counts, saved, value):
    """Contents of saved lines by their holders, each of which has a line left, or None."""
    if not isinstance(value, dict):
        return None
    found = {}
    for key, item in value.items():
        holder = plain_writer(key)
        runs = plain_content(saved, item)
        if runs is None or holder not in counts or saved[holder] == counts[holder]:
            return None
        found[holder] = runs
    return {holder: found[holder] for holder in sorted(found)}


def order_of_saves(state):
    """Saved lines in an order that fits the state, or None if no schedule produces the state.

    These are all lines that have a base in the page or in a copy, and those that matter for them.
    """
    contents = [state.page] + list(state.copies.values())
    if not have_one_base_each(contents):
        return None
    pairs = pairs_of_bases(contents)
    pairs.update(pairs_with_last(state.saved, last_line(state.page)))
    for holder, runs in state.copies.items():
        latest = (holder, state.saved[holder])
        # The copy was read after this line was saved.
        if state.saved[holder] > 0 and last_line(runs) != latest:
            pairs[(latest, last_line(runs))] = True
    return possible_order(pairs)


def plain_state(counts, value):
    """The state, or None if the value, which may be any value, is none."""
    if type(value) != tuple or len(value) != 3:
        return None
    saved = plain_saved(counts, value[0])
    if saved is None:
        return None
    page = plain_content(saved, value[1])
    copies = plain_copies(counts, saved, value[2])
    if page is None or copies is None:
        return None
    state = State(counts, saved, page, copies)
    return None if order_of_saves(state) is None else state


def checked_state(line_counts, value):
    counts = checked_line_counts(line_counts)
    state = plain_state(counts, value)
    if state is None:
        raise InvalidState("not a state for these line counts")
    return state


def is_state(line_counts, value):
    counts = checked_line_counts(line_counts)
    return plain_state(counts, value) is not None


def schedule_to_state(line_counts, state):
    wanted = checked_state(line_counts, state)
    bases = bases_of([wanted.page] + list(wanted.copies.values()))
    segments = segments_of(wanted.saved, order_of_saves(wanted))
    log = log_of_segments(segments, bases)
    held = {holder: last_line(wanted.copies[holder]) for holder in wanted.copies}
    return schedule_of_log(log, held)


def state_after_actions(line_counts, state, actions):
    start = checked_state(line_counts, state)
    replay = Replay(start.counts)
    replay.resume(start.saved, start.page, start.copies)
    perform_all(replay, actions)
    return replay.state()


def possible_bases(line_counts, state):
    return bases_of_state(checked_state(line_counts, state))


def guaranteed_lines(line_counts, state):
    return guaranteed_in_state(checked_state(line_counts, state))


def permanently_lost(line_counts, state):
    return lost_in_state(checked_state(line_counts, state))


def can_become_final(line_counts, state, content):
    return finality_obstructions(line_counts, state, content) is None


def finality_obstructions(line_counts, state, content):
    start = checked_state(line_counts, state)
    runs = checked_content(start.counts, content)
    return obstructions_in_state(start, runs)


def actions_to_final(line_counts, state, content):
    start = checked_state(line_counts, state)
    runs = checked_content(start.counts, content)
    return actions_in_state(start, runs)


def reachable_final_contents(line_counts, state):
    start = checked_state(line_counts, state)
    if start.lines_left() > MOST_LINES_LEFT:
        raise TooManyResults(start.lines_left())
    return contents_in_state(start)
