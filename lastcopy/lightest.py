"""The lightest line sets that can survive (point 81 of the document).

A line set stands for one number: its weight is shifted to the left, and each line has a bit below
it. So the numbers of sets without common lines are added, and of two sets the one with the
smaller number is not the heavier one.
"""

# What the lines of a row have at least: nothing, a first line, a last line, or a first line and a
# last line that are two different lines.
ROW_PARTS = 4


class Choices:
    """The lightest choices of lines of one writer.

    A row has a number for each part of ROW_PARTS; rows[lines][gaps] is for the choices of so many
    lines with at most so many gaps. Numbers of the size of huge stand for no choice at all.
    """

    def __init__(self, numbers, most_gaps, huge):
        self.count = len(numbers)
        self.most_gaps = most_gaps
        self.rows = rows_of_choices(numbers, most_gaps, huge)

    def rows_in(self, size):
        """The rows by the number of lines, in sets of so many lines of all writers."""
        return [self.rows[lines][min(size - lines, self.most_gaps)]
                for lines in range(min(self.count, size) + 1)]

    def all_rows(self):
        """The rows in sets that are so large that this writer never has too many gaps."""
        return [row[-1] for row in self.rows]


def smaller(numbers, others):
    return [one if one < other else other for one, other in zip(numbers, others)]


def choices_with_ends(numbers, has_first, most_gaps, huge):
    """Two tables of the lightest choices, by their lines and gaps: with the last line, and without.

    All of them have the first line, or none of them.
    """
    blank = [huge] * (most_gaps + 1)
    taken = [list(blank) for lines in range(len(numbers) + 1)]
    left_out = [list(blank) for lines in range(len(numbers) + 1)]
    if has_first:
        taken[1][0] = numbers[0]
    elif most_gaps > 0:
        left_out[0][1] = 0
    for number in numbers[1:]:
        longer = [[value + number for value in smaller(row, other)]
                  for row, other in zip(taken, left_out)]
        # Leaving out a line behind one that is taken begins a gap.
        left_out = [smaller(other, [huge] + row) for row, other in zip(taken, left_out)]
        taken = [blank] + longer[:-1]
    return (taken, left_out)


def rows_of_choices(numbers, most_gaps, huge):
    with_first, first_alone = choices_with_ends(numbers, True, most_gaps, huge)
    last_alone, without_both = choices_with_ends(numbers, False, most_gaps, huge)
    rows = []
    for lines in range(len(numbers) + 1):
        best = (huge,) * ROW_PARTS
        found = []
        for gaps in range(most_gaps + 1):
            both = with_first[lines][gaps]
            first = min(both, first_alone[lines][gaps])
            last = min(both, last_alone[lines][gaps])
            anything = min(first, last, without_both[lines][gaps])
            # An only line is both the first and the last one, but not two lines.
            row = (anything, first, last, both if len(numbers) > 1 else huge)
            best = tuple(smaller(best, row))
            found.append(best)
        rows.append(found)
    return rows


def joined_rows(rows, others, size, huge):
    """The rows of sets of up to so many lines that consist of a set of each kind."""
    most = min(size, len(rows) + len(others) - 2)
    found = [(huge,) * ROW_PARTS] * (most + 1)
    for lines, (anything, first, last, both) in enumerate(rows):
        for more, (other_anything, other_first, other_last, other_both) in enumerate(
                others[:most - lines + 1]):
            best = found[lines + more]
            found[lines + more] = (
                min(best[0], anything + other_anything),
                min(best[1], first + other_anything, anything + other_first),
                min(best[2], last + other_anything, anything + other_last),
                min(best[3], both + other_anything, anything + other_both,
                    first + other_last, last + other_first))
    return found


def numbers_of_lines(weights):
    """The number of each line, by writers."""
    total = sum([len(listed) for listed in weights.values()])
    numbers = {}
    at = 0
    for writer, listed in weights.items():
        numbers[writer] = []
        for weight in listed:
            numbers[writer].append((weight << total) + (1 << at))
            at += 1
    return numbers


def least_numbers(numbers, sizes):
    """For each size, in ascending order, the least number of a set with two different ends.

    Larger numbers than those of all lines together stand for no set.
    """
    total = sum([len(listed) for listed in numbers])
    huge = 4 * bound_of(numbers)
    writers = []
    for listed in sorted(numbers, key=len):
        if listed:
            most_gaps = min((len(listed) + 1) // 2, total - len(listed))
            writers.append(Choices(listed, most_gaps, huge))
    # A writer has at most as many gaps as lines that are lost, so in a set of as many lines as the
    # writer has, its gaps are never too many.
    rows = [(0, huge, huge, huge)]
    free = 0
    found = []
    for size in sizes:
        while free < len(writers) and writers[free].count <= size:
            rows = joined_rows(rows, writers[free].all_rows(), total, huge)
            free += 1
        whole = rows[:size + 1]
        for choices in writers[free:]:
            whole = joined_rows(whole, choices.rows_in(size), size, huge)
        found.append(whole[size][3])
    return found


def bound_of(numbers):
    """More than the number of any set."""
    return 1 + sum([abs(number) for listed in numbers for number in listed])


def lightest_set(weights, size):
    """The lightest weight and the numbers of the lines of such a set, by writers, or None.

    If the size is None, sets of all sizes count.
    """
    total = sum([len(listed) for listed in weights.values()])
    if total == 0:
        return (0, {}) if size in (None, 0) else None
    sizes = [number for number in range(1, total + 1) if size is None or number == size]
    listed = list(numbers_of_lines(weights).values())
    found = least_numbers(listed, sizes)
    if 1 in sizes:
        found = found + [single[0] for single in listed if len(single) == 1]
    best = min(found, default=bound_of(listed))
    if best >= bound_of(listed):
        return None
    weight = best >> total
    lines = best - (weight << total)
    chosen = {}
    at = 0
    for writer in weights:
        chosen[writer] = []
        for number in range(1, len(weights[writer]) + 1):
            if (lines >> at) & 1 == 1:
                chosen[writer].append(number)
            at += 1
    return (weight, chosen)
