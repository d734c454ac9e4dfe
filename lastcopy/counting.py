"""How many line sets survive and how many contents are final (points 39 to 44 of the document)."""

from itertools import accumulate
from math import comb

from lastcopy.arguments import checked_integer, checked_line_counts, checked_table
from lastcopy.errors import TooManyResults

MOST_RESULTS = 20000
LARGEST_SIZE = 60


def choices(things, chosen):
    if 0 <= chosen <= things:
        return comb(things, chosen)
    return 0


def can_survive_counts(line_counts, survivor_counts):
    counts = checked_line_counts(line_counts)
    survivors = checked_table(counts, survivor_counts)
    if any([survivors[writer] > counts[writer] for writer in counts]):
        return False
    positive = [writer for writer in counts if survivors[writer] > 0]
    if not positive:
        return sum(counts.values()) == 0
    return len(positive) > 1 or survivors[positive[0]] == counts[positive[0]]


def min_surviving_lines(line_counts):
    counts = checked_line_counts(line_counts)
    numbers = [number for number in counts.values() if number > 0]
    if len(numbers) > 1 and 1 not in numbers:
        return 2
    return min(numbers, default=0)


def choices_from(things, start, end):
    """The choices of start to end - 1 things, each from the one before it."""
    found = [choices(things, start)]
    for chosen in range(start, end - 1):
        found.append(found[-1] * (things - chosen) // (chosen + 1))
    return found


def sets_by_ends(numbers, most):
    """For each size up to the most, how many sets there are: in three lists.

    All sets; those with a first line; those with a first line and, at another place, a last line.
    The numbers are those of the lines of the writers that have lines.
    """
    total = sum(numbers)
    inner = total - sum([min(number, 2) for number in numbers])
    sets = choices_from(total, 0, most + 1)
    without_first = choices_from(total - len(numbers), 0, most + 1)
    without_both = choices_from(inner, 0, most + 1)
    with_first = [one - two for one, two in zip(sets, without_first)]
    two_ends = []
    for size in range(most + 1):
        # Here the only line of a writer is the only first line and the only last line.
        same_line = numbers.count(1) * without_both[size - 1] if size > 0 else 0
        two_ends.append(with_first[size] - without_first[size] + without_both[size] - same_line)
    return (sets, with_first, two_ends)


def sets_with_many_gaps(number, others, size):
    """How many sets with both ends have more gaps of one writer than lines of the others."""
    sets, with_first, two_ends = sets_by_ends(others, size // 2)
    found = 0
    # With fewer lines the writer has no gaps enough.
    for lines in range((size + 1) // 2, size + 1):
        rest = size - lines
        # For rest + 1 gaps and more, the places of the gaps and the ways to split the lines.
        places = choices_from(number - lines - 1, rest, lines + 1)
        splits = [0, 0] + choices_from(lines - 1, 0, lines) + [0, 0]
        # The writer has its first and its last line, one of the two, or none; the others the rest.
        for missing, ways in ((0, sets[rest]), (1, 2 * with_first[rest]), (2, two_ends[rest])):
            start = rest + 3 - missing
            found += ways * sum([one * two for one, two in zip(places, splits[start:])])
    return found


def count_survivor_sets(line_counts, size):
    counts = checked_line_counts(line_counts)
    lines = checked_integer(size, 0, LARGEST_SIZE)
    numbers = [number for number in counts.values() if number > 0]
    if lines == 0:
        return 0 if numbers else 1
    # At most one writer of a set with both ends has too many gaps, so none is taken off twice.
    found = sets_by_ends(numbers, lines)[2][lines]
    for number in sorted(set(numbers)):
        at = numbers.index(number)
        others = numbers[:at] + numbers[at + 1:]
        found -= numbers.count(number) * sets_with_many_gaps(number, others, lines)
    return found + (numbers.count(1) if lines == 1 else 0)


def check_total(numbers):
    total = 1
    for number in numbers:
        total *= number + 1
    if total > MOST_RESULTS:
        raise TooManyResults(total)


def joined_runs(runs):
    """For each number of blocks, in how many ways a writer's runs are joined to so many blocks.

    Each joint changes the sign. Summed up over all orders of the blocks of all writers, those
    sequences cancel in which a writer occurs twice in a row.
    """
    if runs == 0:
        return [1]
    ways = [0]
    for blocks in range(1, runs + 1):
        number = choices(runs - 1, blocks - 1)
        ways.append(number if (runs - blocks) & 1 == 0 else -number)
    return ways


def ways_of_runs(lines, runs, ends):
    """In how many ways a writer has so many runs, if it is at so many ends of the content."""
    return choices(lines + runs - ends, 2 * runs - ends)


def with_turned_signs(numbers):
    """The numbers at even places, and the negative ones of the others."""
    return [number if at & 1 == 0 else -number for at, number in enumerate(numbers)]


def joined_sums(ways):
    """From a writer's ways by its number of runs, the sums of its ways by its number of blocks.

    Runs are joined as in joined_runs, so with x for a run and y for a block, the sum of the ways
    times x ** (runs - 1) is taken at x = y - 1. The sums come from dividing by 1 + x over and over.
    """
    left = with_turned_signs(ways[1:])[::-1]
    found = []
    while left:
        left = list(accumulate(left))
        found.append(left.pop())
    return ways[:1] + with_turned_signs(found)


def mixed(orders, blocks):
    """The orders, by their length, with further blocks put anywhere in between."""
    found = [0] * (len(orders) + len(blocks) - 1)
    # How many places so many blocks have in an order of each length.
    places = [1] * len(orders)
    for more, ways in enumerate(blocks):
        for length, number in enumerate(orders):
            found[length + more] += places[length] * number * ways
        places = list(accumulate(places))
    return found


def sum_of_mixed(orders, blocks):
    """The sum of what mixed gives."""
    if len(blocks) > len(orders):
        return sum_of_mixed(blocks, orders)
    # For each length the ways to put the blocks that are done into an order; one more block of
    # the same writer has all places from each one on.
    ways = [0] * len(orders)
    for number in reversed(blocks):
        ways[0] += number
        ways = list(accumulate(ways))
    return sum([one * two for one, two in zip(orders, ways)])


def ends_of(writer, begin, end):
    """At how many ends of a content a writer is, if these two writers are at its ends."""
    return (1 if writer == begin else 0) + (1 if writer == end else 0)


def single_block(tables, writer):
    """The ways of a content that is one block, which is at both ends."""
    ways = tables[writer][2][1]
    for other, table in tables.items():
        if other != writer:
            ways *= table[0][0]
    return ways


def orders_with_ends(tables, begin, end):
    """How many sequences, as the tables weigh them, begin and end with these writers.

    A table has the ways of a writer by its number of blocks: for a writer that is at no end, at
    one end and at both ends.
    """
    lists = []
    for writer, table in tables.items():
        ends = ends_of(writer, begin, end)
        # The blocks at the ends have their places already.
        lists.append(table[ends][ends:])
    lists = sorted(lists, key=len)
    orders = [1]
    for blocks in lists[:-1]:
        orders = mixed(orders, blocks)
    return sum_of_mixed(orders, lists[-1]) + (single_block(tables, begin) if begin == end else 0)


def orders_by_ends(tables, numbers):
    """The orders for each pair of writers at the ends. Equal numbers stand for equal tables."""
    known = {}
    found = {}
    for begin in tables:
        for end in tables:
            low = min(numbers[begin], numbers[end])
            key = (low, max(numbers[begin], numbers[end]), begin == end)
            if key not in known:
                known[key] = orders_with_ends(tables, begin, end)
            found[(begin, end)] = known[key]
    return found


def count_contents_by_runs(line_counts, run_counts):
    counts = checked_line_counts(line_counts)
    runs = checked_table(counts, run_counts)
    check_total(list(runs.values()))
    present = [writer for writer in counts if runs[writer] > 0]
    if not present:
        return 1 if sum(counts.values()) == 0 else 0
    most = max(runs.values())
    # The others cannot keep so many runs apart; the lists of the blocks would be long.
    if most > sum(runs.values()) - most + 1:
        return 0
    tables = {writer: [joined_runs(runs[writer])] * 3 for writer in present}
    found = 0
    for (begin, end), ways in orders_by_ends(tables, runs).items():
        for writer in present:
            if ways != 0:
                ends = ends_of(writer, begin, end)
                ways *= ways_of_runs(counts[writer], runs[writer], ends)
        found += ways
    return found


def count_final_contents(line_counts):
    counts = checked_line_counts(line_counts)
    check_total(list(counts.values()))
    total = sum(counts.values())
    if total == 0:
        return 1
    tables = {}
    for writer, lines in counts.items():
        if lines > 0:
            # Between two runs of a writer is a line of another one.
            most = min(lines, total - lines + 1)
            tables[writer] = [joined_sums([ways_of_runs(lines, runs, ends) for runs in range(most + 1)])
                              for ends in range(3)]
    return sum(orders_by_ends(tables, counts).values())
