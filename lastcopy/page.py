"""The interactive page (points 84 to 89 of the document)."""

from lastcopy.arguments import (
    checked_content,
    checked_line_counts,
    continues,
    plain_integer,
    plain_text,
    plain_writer,
)
from lastcopy.errors import EmptyHistory, InvalidAction, InvalidInteger, UnknownWriter
from lastcopy.reachable import (
    State,
    bases_of_state,
    guaranteed_in_state,
    lost_in_state,
    obstructions_in_state,
)
from lastcopy.schedules import is_possible, plain_action


class Piece:
    """The last run of a content, and the piece before it, None for the empty page.

    A content is kept as its last piece, so that the contents of a long history share their pieces.
    """

    def __init__(self, run, before):
        self.run = run
        self.before = before


def piece_behind(piece, run):
    """The content with one more run at its end."""
    if piece is not None and continues(piece.run, run):
        return Piece((run[0], piece.run[1], run[2]), piece.before)
    return Piece(run, piece)


def runs_of_piece(piece):
    runs = []
    while piece is not None:
        runs.append(piece.run)
        piece = piece.before
    return runs[::-1]


class Moment:
    """What the actions have led to. It is not changed, so that undo may come back to it.

    A copy is a tuple of its last piece and the number of lines that were saved when it was read.
    """

    def __init__(self, counts, saved, last, copies, gone, overwrites):
        self.counts = counts
        self.saved = saved
        self.last = last
        self.copies = copies
        self.gone = gone
        self.overwrites = overwrites

    def can_perform(self, action):
        writer = action[1]
        if action[0] == "leave":
            return writer not in self.gone
        return is_possible(action, self.counts[writer] - self.saved[writer], writer in self.copies)

    def after(self, action):
        """The next moment; the action is possible."""
        writer = action[1]
        if action[0] == "read":
            return self.after_read(writer)
        if action[0] == "leave":
            return self.after_leave(writer)
        if action[0] == "append":
            return self.after_save(writer, self.last, action[2], 0)
        last, read_at = self.copies[writer]
        overwrites = 1 if read_at < sum(self.saved.values()) else 0
        return self.after_save(writer, last, 1, overwrites)

    def after_read(self, writer):
        copies = dict(self.copies)
        copies[writer] = (self.last, sum(self.saved.values()))
        return Moment(self.counts, self.saved, self.last, copies, self.gone, self.overwrites)

    def after_save(self, writer, last, count, overwrites):
        number = self.saved[writer]
        saved = dict(self.saved)
        saved[writer] = number + count
        page = piece_behind(last, (writer, number + 1, number + count))
        return Moment(self.counts, saved, page, self.copies_without(writer), self.gone,
                      self.overwrites + overwrites)

    def after_leave(self, writer):
        counts = dict(self.counts)
        counts[writer] = self.saved[writer]
        return Moment(counts, self.saved, self.last, self.copies_without(writer),
                      self.gone + [writer], self.overwrites)

    def copies_without(self, writer):
        return {holder: self.copies[holder] for holder in self.copies if holder != writer}

    def whole_state(self):
        copies = {holder: runs_of_piece(self.copies[holder][0]) for holder in self.copies}
        return State(self.counts, self.saved, runs_of_piece(self.last), copies)


def first_moment(counts):
    return Moment(counts, {writer: 0 for writer in counts}, None, {}, [], 0)


class Page:
    """A page on which actions are performed, undone and performed again."""

    def __init__(self, line_counts):
        self.now = first_moment(checked_line_counts(line_counts))
        # The actions with the moment before each one, and the undone ones with the moment after.
        self.done = []
        self.undone = []

    def __len__(self):
        return len(self.done)

    def __eq__(self, other):
        if not isinstance(other, Page):
            return False
        return self.line_counts() == other.line_counts() and self.state() == other.state()

    def known_writer(self, writer):
        name = plain_writer(writer)
        if name not in self.now.counts:
            raise UnknownWriter(writer)
        return name

    def perform(self, action):
        if not self.now.can_perform(action):
            raise InvalidAction(len(self.done))
        self.done.append((action, self.now))
        self.undone = []
        self.now = self.now.after(action)

    def read_page(self, writer):
        self.perform(("read", self.known_writer(writer)))

    def save_line(self, writer):
        self.perform(("save", self.known_writer(writer)))

    def append_lines(self, writer, count):
        name = self.known_writer(writer)
        number = plain_integer(count)
        if number is None or number < 1:
            raise InvalidInteger("a number of lines is an integer from 1 on")
        self.perform(("append", name, number))

    def leave(self, writer):
        self.perform(("leave", self.known_writer(writer)))

    def undo(self):
        if not self.done:
            raise EmptyHistory("no action to undo")
        action, before = self.done.pop()
        self.undone.append((action, self.now))
        self.now = before

    def redo(self):
        if not self.undone:
            raise EmptyHistory("no action to redo")
        action, after = self.undone.pop()
        self.done.append((action, self.now))
        self.now = after

    def line_counts(self):
        return dict(self.now.counts)

    def content(self):
        return runs_of_piece(self.now.last)

    def held_copy(self, writer):
        name = self.known_writer(writer)
        if name not in self.now.copies:
            return None
        return runs_of_piece(self.now.copies[name][0])

    def remaining(self, writer):
        name = self.known_writer(writer)
        return self.now.counts[name] - self.now.saved[name]

    def overwrite_count(self):
        return self.now.overwrites

    def state(self):
        whole = self.now.whole_state()
        return (dict(whole.saved), whole.page, whole.copies)

    def schedule(self):
        return [action for action, before in self.done]

    def fork(self):
        page = Page(self.now.counts)
        page.now = self.now
        page.done = list(self.done)
        page.undone = list(self.undone)
        return page

    def possible_bases(self):
        return bases_of_state(self.now.whole_state())

    def guaranteed_lines(self):
        return guaranteed_in_state(self.now.whole_state())

    def permanently_lost(self):
        return lost_in_state(self.now.whole_state())

    def obstructions_to(self, content):
        """The obstructions of point 77, or None if the content can become final."""
        runs = checked_content(self.now.counts, content)
        return obstructions_in_state(self.now.whole_state(), runs)

    def can_become_final(self, content):
        return self.obstructions_to(content) is None


def plain_page_action(counts, value):
    """The action as a plain tuple, or None if the value, which may be any value, is none."""
    if type(value) == tuple and len(value) == 2 and plain_text(value[0]) == "leave":
        writer = plain_writer(value[1])
        return ("leave", writer) if writer in counts else None
    return plain_action(counts, value)


def replay(line_counts, schedule):
    page = Page(line_counts)
    if type(schedule) != list:
        raise InvalidAction(None)
    for index, item in enumerate(schedule):
        action = plain_page_action(page.now.counts, item)
        if action is None:
            raise InvalidAction(index)
        page.perform(action)
    return page
