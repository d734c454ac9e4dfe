"""How many line sets survive and how many contents are final (points 39 to 44 of the document)."""

from math import comb

from lastcopy.arguments import checked_integer, checked_line_counts, checked_table
from lastcopy.errors import TooManyResults

MOST_RESULTS = 20000
LARGEST_SIZE = 60


def choices(things, chosen):
    if 0 <= chosen <= things:
        return comb(things, chosen)
    return 0


def can_survive_counts(line_counts, survivor_counts):
    counts = checked_line_counts(line_counts)
    survivors = checked_table(counts, survivor_counts)
    if any([survivors[writer] > counts[writer] for writer in counts]):
        return False
    positive = [writer for writer in counts if survivors[writer] > 0]
    if not positive:
        return sum(counts.values()) == 0
    return len(positive) > 1 or survivors[positive[0]] == counts[positive[0]]


def min_surviving_lines(line_counts):
    counts = checked_line_counts(line_counts)
    numbers = [number for number in counts.values() if number > 0]
    if len(numbers) > 1 and 1 not in numbers:
        return 2
    return min(numbers, default=0)


def sets_with_two_ends(numbers, size):
    """How many sets of so many lines have a first line and, at another place, a last line.

    The numbers are those of the lines of the writers that have lines.
    """
    total = sum(numbers)
    inner = total - sum([min(number, 2) for number in numbers])
    without_first = choices(total - len(numbers), size)
    without_both = choices(inner, size)
    # Here the only line of a writer is the only first line and the only last line.
    same_line = numbers.count(1) * choices(inner, size - 1)
    return choices(total, size) - 2 * without_first + without_both - same_line


def rests_with_ends(numbers, size, missing):
    """How many sets of so many lines of the others have the ends that a writer does not have."""
    if missing == 2:
        return sets_with_two_ends(numbers, size)
    total = sum(numbers)
    if missing == 1:
        return choices(total, size) - choices(total - len(numbers), size)
    return choices(total, size)


def sets_with_many_gaps(number, others, size):
    """How many sets with both ends have more gaps of one writer than lines of the others."""
    found = 0
    for lines in range(1, size + 1):
        rest = size - lines
        # The writer has its first and its last line, one of the two, or none.
        for missing, ways in ((0, 1), (1, 2), (2, 1)):
            own = 0
            for gaps in range(rest + 1, lines + 2):
                splits = choices(lines - 1, gaps - missing)
                own += splits * choices(number - lines - 1, gaps - 1)
            found += ways * own * rests_with_ends(others, rest, missing)
    return found


def count_survivor_sets(line_counts, size):
    counts = checked_line_counts(line_counts)
    lines = checked_integer(size, 0, LARGEST_SIZE)
    numbers = [number for number in counts.values() if number > 0]
    if lines == 0:
        return 0 if numbers else 1
    # At most one writer of a set with both ends has too many gaps, so none is taken off twice.
    found = sets_with_two_ends(numbers, lines)
    for at, number in enumerate(numbers):
        found -= sets_with_many_gaps(number, numbers[:at] + numbers[at + 1:], lines)
    return found + (numbers.count(1) if lines == 1 else 0)


def check_total(numbers):
    total = 1
    for number in numbers:
        total *= number + 1
    if total > MOST_RESULTS:
        raise TooManyResults(total)


def joined_runs(runs):
    """For each number of blocks, in how many ways a writer's runs are joined to so many blocks.

    Each joint changes the sign. Summed up over all orders of the blocks of all writers, those
    sequences cancel in which a writer occurs twice in a row.
    """
    if runs == 0:
        return [1]
    ways = [0]
    for blocks in range(1, runs + 1):
        number = choices(runs - 1, blocks - 1)
        ways.append(number if (runs - blocks) & 1 == 0 else -number)
    return ways


def ways_of_runs(lines, runs, ends):
    """In how many ways a writer has so many runs, if it is at so many ends of the content."""
    return choices(lines + runs - ends, 2 * runs - ends)


def mixed(orders, blocks):
    """The orders, by their length, with further blocks put anywhere in between."""
    found = [0] * (len(orders) + len(blocks))
    for length, number in enumerate(orders):
        for more, ways in enumerate(blocks):
            found[length + more] += choices(length + more, more) * number * ways
    return found


def ends_of(writer, begin, end):
    """At how many ends of a content a writer is, if these two writers are at its ends."""
    return (1 if writer == begin else 0) + (1 if writer == end else 0)


def single_block(tables, writer):
    """The ways of a content that is one block, which is at both ends."""
    ways = tables[writer][2][1]
    for other, table in tables.items():
        if other != writer:
            ways *= table[0][0]
    return ways


def orders_with_ends(tables, begin, end):
    """How many sequences, as the tables weigh them, begin and end with these writers.

    A table has the ways of a writer by its number of blocks: for a writer that is at no end, at
    one end and at both ends.
    """
    orders = [1]
    for writer, table in tables.items():
        ends = ends_of(writer, begin, end)
        # The blocks at the ends have their places already.
        orders = mixed(orders, table[ends][ends:])
    return sum(orders) + (single_block(tables, begin) if begin == end else 0)


def count_contents_by_runs(line_counts, run_counts):
    counts = checked_line_counts(line_counts)
    runs = checked_table(counts, run_counts)
    check_total(list(runs.values()))
    present = [writer for writer in counts if runs[writer] > 0]
    if not present:
        return 1 if sum(counts.values()) == 0 else 0
    most = max(runs.values())
    # The others cannot keep so many runs apart; the lists of the blocks would be long.
    if most > sum(runs.values()) - most + 1:
        return 0
    tables = {writer: [joined_runs(runs[writer])] * 3 for writer in present}
    found = 0
    for begin in present:
        for end in present:
            ways = orders_with_ends(tables, begin, end)
            for writer in present:
                ends = ends_of(writer, begin, end)
                ways *= ways_of_runs(counts[writer], runs[writer], ends)
            found += ways
    return found


def summed_runs(lines, most, ends):
    """The ways of a writer by its number of blocks, for all numbers of runs together."""
    sums = [0] * (most + 1)
    for runs in range(most + 1):
        ways = ways_of_runs(lines, runs, ends)
        for blocks, number in enumerate(joined_runs(runs)):
            sums[blocks] += ways * number
    return sums


def count_final_contents(line_counts):
    counts = checked_line_counts(line_counts)
    check_total(list(counts.values()))
    total = sum(counts.values())
    if total == 0:
        return 1
    tables = {}
    for writer, lines in counts.items():
        if lines > 0:
            # Between two runs of a writer is a line of another one.
            most = min(lines, total - lines + 1)
            tables[writer] = [summed_runs(lines, most, ends) for ends in range(3)]
    return sum([orders_with_ends(tables, begin, end) for begin in tables for end in tables])
