"""Save orders and the contents that they can produce (points 52 to 58 of the document)."""

from lastcopy.arguments import (
    LARGEST_NUMBER,
    MOST_WRITERS,
    checked_integer,
    checked_line,
    plain_content,
    plain_integer,
    plain_writer,
)
from lastcopy.contents import with_run
from lastcopy.errors import InvalidContent, InvalidSaveOrder


class Segment:
    """The lines first to last of a writer, saved without another save in between.

    The page before all saves counts as a segment of one line, so that every other segment has an
    earlier one as its previous one: the one of the same writer, or the empty page. The base of
    its first line is the last line of the previous one, or any line saved since then.
    """

    def __init__(self, writer, first, last, previous):
        self.writer = writer
        self.first = first
        self.last = last
        self.previous = previous
        # How many contents end with any one of its lines, and with a line of an earlier segment.
        self.outcomes = 1
        self.before = 0

    def size(self):
        return self.last - self.first + 1

    def up_to_end(self):
        """How many contents end with a line of this or an earlier segment."""
        return self.before + self.size() * self.outcomes


def plain_segment(value):
    """The segment as a plain tuple, or None if the value, which may be any value, is none."""
    if type(value) != tuple or len(value) != 2:
        return None
    writer = plain_writer(value[0])
    count = plain_integer(value[1])
    if writer is None or count is None or count < 1:
        return None
    return (writer, count)


def plain_segments(value):
    """A list of segments, perhaps an empty one, or None if the value is none."""
    if type(value) != list:
        return None
    order = []
    for item in value:
        segment = plain_segment(item)
        if segment is None or (order and order[-1][0] == segment[0]):
            return None
        order.append(segment)
    return order


def totals_of(order):
    totals = {}
    for writer, count in order:
        totals[writer] = totals.get(writer, 0) + count
    return totals


def checked_save_order(value):
    order = plain_segments(value)
    if not order:
        raise InvalidSaveOrder("not a list of segments, each of another writer than the one before")
    totals = totals_of(order)
    if len(totals) > MOST_WRITERS or max(totals.values()) > LARGEST_NUMBER:
        raise InvalidSaveOrder("too many writers or too many lines")
    return order


def line_counts_of(save_order):
    return totals_of(checked_save_order(save_order))


def read_segments(save_order):
    """The segments, the empty page before them."""
    segments = [Segment("", 0, 0, 0)]
    latest = {}
    for index, (writer, count) in enumerate(checked_save_order(save_order), start=1):
        previous = latest.get(writer, 0)
        done = segments[previous].last
        segment = Segment(writer, done + 1, done + count, previous)
        segments.append(segment)
        segment.before = segments[index - 1].up_to_end()
        since = segment.before - segments[previous].up_to_end()
        segment.outcomes = segments[previous].outcomes + since
        latest[writer] = index
    return segments


def totals_of_segments(segments):
    """The line counts of the save order."""
    return {segment.writer: segment.last for segment in segments[1:]}


def segment_of(segments, line):
    """The index of the segment that has a line."""
    for index, segment in enumerate(segments):
        if segment.writer == line[0] and segment.first <= line[1] <= segment.last:
            return index
    return None


def base_in(segments, index, runs):
    """The base that a content of these runs gives to the first line of a segment.

    The content ends before that line. Returns the base as the index of its segment and its
    number, or None if it is not possible.
    """
    segment = segments[index]
    if not runs:
        return (0, 0) if segment.previous == 0 else None
    writer, first, last = runs[-1]
    at = segment_of(segments, (writer, last))
    is_latest = at == segment.previous and last == segments[at].last
    return (at, last) if is_latest or segment.previous < at < index else None


def pieces_of(segments, value):
    """An outcome cut into segments, from the end: the segment and the last number of each piece.

    The last piece is the empty page. Returns None if the value, which may be any, is no outcome.
    """
    runs = plain_content(totals_of_segments(segments), value)
    index = len(segments) - 1
    last = segments[index].last
    if not runs or (runs[-1][0], runs[-1][2]) != (segments[index].writer, last):
        return None
    pieces = [(index, last)]
    while index > 0:
        segment = segments[index]
        start = runs[-1][1]
        if start > segment.first:
            return None
        runs = runs[:-1]
        if start < segment.first:
            runs = runs + [(segment.writer, start, segment.first - 1)]
        base = base_in(segments, index, runs)
        if base is None:
            return None
        pieces.append(base)
        index = base[0]
    return pieces


def is_outcome(save_order, value):
    segments = read_segments(save_order)
    return pieces_of(segments, value) is not None


def count_outcomes(save_order):
    return read_segments(save_order)[-1].outcomes


def base_of_rank(segments, index, rank):
    """The base of a segment's first line in the outcome of this rank among all that end there.

    Returns the index of the base's segment, its number, and the rank of what ends with it.
    """
    at = segments[index].previous
    if rank < segments[at].outcomes:
        return (at, segments[at].last, rank)
    left = rank - segments[at].outcomes
    at += 1
    while left >= segments[at].size() * segments[at].outcomes:
        left -= segments[at].size() * segments[at].outcomes
        at += 1
    line, rest = divmod(left, segments[at].outcomes)
    return (at, segments[at].first + line, rest)


def content_of_pieces(segments, pieces):
    """The content of pieces that are listed from its end, the empty page being the last one."""
    runs = []
    for index, last in reversed(pieces[:-1]):
        runs = with_run(runs, (segments[index].writer, segments[index].first, last))
    return runs


def nth_outcome(save_order, index):
    segments = read_segments(save_order)
    rank = checked_integer(index, 0, segments[-1].outcomes - 1)
    at = len(segments) - 1
    pieces = [(at, segments[at].last)]
    while at > 0:
        at, last, rank = base_of_rank(segments, at, rank)
        pieces.append((at, last))
    return content_of_pieces(segments, pieces)


def rank_of_base(segments, index, base):
    """How many contents that may precede a segment's first line end with an earlier line."""
    at, number = base
    previous = segments[segments[index].previous]
    earlier = segments[at].before + (number - segments[at].first) * segments[at].outcomes
    # Of the previous segment and those before it, only its last line is a base.
    return earlier - (previous.up_to_end() - previous.outcomes)


def outcome_index(save_order, content):
    segments = read_segments(save_order)
    pieces = pieces_of(segments, content)
    if pieces is None:
        raise InvalidContent("not an outcome of the save order")
    return sum([rank_of_base(segments, pieces[at][0], pieces[at + 1])
                for at in range(len(pieces) - 1)])


def bases_of_shortest(segments):
    """For each segment the segment of the base that gives its first line the fewest lines before."""
    bases = [0]
    # How many lines the shortest content has that ends with the first line of each segment.
    fewest = [0]
    for index in range(1, len(segments)):
        at = segments[index].previous
        before = fewest[at] + segments[at].size() - 1
        # A later line of another segment has more lines before it than the first one.
        for later in range(at + 1, index):
            if fewest[later] < before:
                at = later
                before = fewest[later]
        bases.append(at)
        fewest.append(before + 1)
    return bases


def shortest_outcome(save_order):
    segments = read_segments(save_order)
    bases = bases_of_shortest(segments)
    index = len(segments) - 1
    pieces = [(index, segments[index].last)]
    while index > 0:
        at = bases[index]
        is_latest = at == segments[index].previous
        pieces.append((at, segments[at].last if is_latest else segments[at].first))
        index = at
    return content_of_pieces(segments, pieces)


def ways_to_line(segment, number, entered):
    """In how many ways the bases lead from the last line of all back to a line of a segment.

    The dict has, by writer, the ways that lead to the first line of its next segment, from which
    every line of another writer's segment is a base, and the last line of its own.
    """
    # Only the last segment has nothing after it.
    to_last = sum(entered.values()) if entered else 1
    from_others = sum([ways for writer, ways in entered.items() if writer != segment.writer])
    return to_last + (segment.last - number) * from_others


def ways_back_to(segments, index, number):
    entered = {}
    for at in range(len(segments) - 1, index, -1):
        segment = segments[at]
        entered[segment.writer] = ways_to_line(segment, segment.first, entered)
    return ways_to_line(segments[index], number, entered)


def count_with(segments, index, number):
    return ways_back_to(segments, index, number) * segments[index].outcomes


def count_outcomes_with(save_order, line):
    segments = read_segments(save_order)
    wanted = checked_line(totals_of_segments(segments), line)
    return count_with(segments, segment_of(segments, wanted), wanted[1])


def count_outcomes_with_both(save_order, one, other):
    segments = read_segments(save_order)
    totals = totals_of_segments(segments)
    lines = [checked_line(totals, one), checked_line(totals, other)]
    places = sorted([(segment_of(segments, line), line[1]) for line in lines])
    index, number = places[1]
    cut = segments[index]
    # What ends with the later line is the same as if it were the last line of all.
    shorter = segments[:index] + [Segment(cut.writer, cut.first, number, cut.previous)]
    shorter[index].outcomes = cut.outcomes
    return ways_back_to(segments, index, number) * count_with(shorter, places[0][0], places[0][1])


def lines_in_all_outcomes(save_order):
    segment = read_segments(save_order)[-1]
    return {segment.writer: [(segment.first, segment.last)]}
