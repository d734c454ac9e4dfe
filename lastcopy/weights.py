"""The weights of line sets that can survive (points 79 to 83 of the document)."""

from math import gcd

from lastcopy.arguments import LARGEST_NUMBER, MOST_WRITERS, plain_integer, plain_writer
from lastcopy.contents import joined_intervals
from lastcopy.errors import InvalidInteger, InvalidNumbers, TooManyResults
from lastcopy.lightest import lightest_set

MOST_LINES_OF_ALL_SETS = 14
MOST_LINES_OF_ONE_SET = 40
MOST_UNIFORM_WRITERS = 2

# Which ends the lines of a set are: no end, first lines alone, last lines alone, a single line that
# is both, or a first line and a last line that are two different lines.
NO_END = 0
FIRST = 1
LAST = 2
SAME = 3
TWO = 4
# The ends of two sets together.
JOINED_ENDS = ((0, 1, 2, 3, 4), (1, 1, 4, 4, 4), (2, 4, 2, 4, 4), (3, 4, 4, 4, 4), (4, 4, 4, 4, 4))


def plain_weights(value):
    if not isinstance(value, dict) or not 1 <= len(value) <= MOST_WRITERS:
        return None
    weights = {}
    for key, item in value.items():
        writer = plain_writer(key)
        if writer is None or type(item) != list:
            return None
        numbers = [plain_integer(number) for number in item]
        if None in numbers:
            return None
        weights[writer] = numbers
    return {writer: weights[writer] for writer in sorted(weights)}


def checked_weights(value, most):
    weights = plain_weights(value)
    if weights is None:
        raise InvalidNumbers("not a dict from 1 to 12 writers to lists of weights")
    total = sum([len(listed) for listed in weights.values()])
    if total > most:
        raise TooManyResults(total)
    return weights


def add_sums(found, sums, weight, count):
    """Adds the sums, each with this weight added to it and so many times."""
    for value, many in sums.items():
        found[value + weight] = found.get(value + weight, 0) + many * count


def ends_of_choice(count, has_first, has_last):
    if has_first and has_last:
        return SAME if count == 1 else TWO
    if has_first:
        return FIRST
    return LAST if has_last else NO_END


def sums_of_writer(listed):
    """How many choices of the writer's lines have each weight.

    They are grouped by their number of lines, by their lines and gaps together, and by their ends.
    """
    groups = {(0, 0, False, True): {0: 1}}
    for at, weight in enumerate(listed):
        longer = {}
        for (lines, gaps, has_first, is_taken), sums in groups.items():
            left_out = (lines, gaps + (1 if is_taken else 0), has_first, False)
            add_sums(longer.setdefault(left_out, {}), sums, 0, 1)
            taken = (lines + 1, gaps, has_first or at == 0, True)
            add_sums(longer.setdefault(taken, {}), sums, weight, 1)
        groups = longer
    found = {}
    for (lines, gaps, has_first, is_taken), sums in groups.items():
        ends = ends_of_choice(len(listed), has_first, is_taken and lines > 0)
        add_sums(found.setdefault((lines, lines + gaps, ends), {}), sums, 0, 1)
    return found


def joined_sums(groups, others):
    """The sums of sets that consist of a set of each kind."""
    found = {}
    for (lines, need, ends), sums in groups.items():
        for (other_lines, other_need, other_ends), other_sums in others.items():
            key = (lines + other_lines, max(need, other_need), JOINED_ENDS[ends][other_ends])
            target = found.setdefault(key, {})
            for weight, count in sums.items():
                add_sums(target, other_sums, weight, count)
    return found


def total_weights(weights):
    listed = checked_weights(weights, MOST_LINES_OF_ALL_SETS)
    groups = {(0, 0, NO_END): {0: 1}}
    for numbers in sorted(list(listed.values()), key=len):
        groups = joined_sums(sums_of_writer(numbers), groups)
    has_lines = any(list(listed.values()))
    found = {}
    for (lines, need, ends), sums in groups.items():
        # The gaps of a writer are at most the lines of the others: all lines but its own ones.
        if not has_lines or (need <= lines and (ends == TWO or (ends == SAME and lines == 1))):
            add_sums(found, sums, 0, 1)
    return sorted(found.items())


def line_set_of(chosen):
    """The line set of some numbers of each writer."""
    return {writer: joined_intervals([(number, number) for number in chosen[writer]])
            for writer in chosen if chosen[writer]}


def checked_size(value):
    size = plain_integer(value)
    if value is not None and (size is None or size < 0):
        raise InvalidInteger("a size is None or an integer of at least 0")
    return size


def min_weight(weights, *, size=None):
    listed = checked_weights(weights, MOST_LINES_OF_ONE_SET)
    found = lightest_set(listed, checked_size(size))
    return None if found is None else (found[0], line_set_of(found[1]))


def max_weight(weights, *, size=None):
    listed = checked_weights(weights, MOST_LINES_OF_ONE_SET)
    negative = {writer: [-weight for weight in listed[writer]] for writer in listed}
    found = lightest_set(negative, checked_size(size))
    return None if found is None else (-found[0], line_set_of(found[1]))


def plain_uniform(value):
    """The writers with their count and weight, or None."""
    if not isinstance(value, dict) or not 1 <= len(value) <= MOST_UNIFORM_WRITERS:
        return None
    found = {}
    for key, item in value.items():
        writer = plain_writer(key)
        if writer is None or type(item) != tuple or len(item) != 2:
            return None
        count = plain_integer(item[0])
        weight = plain_integer(item[1])
        if count is None or weight is None or not 0 <= count <= LARGEST_NUMBER:
            return None
        found[writer] = (count, weight)
    return {writer: found[writer] for writer in sorted(found)}


def checked_total(value):
    total = plain_integer(value)
    if total is None:
        raise InvalidInteger("a weight is an integer")
    return total


def inverse(number, modulus):
    """The factor that makes the number one more than a multiple of the modulus."""
    rest = modulus
    following = number % modulus
    factor = 0
    next_factor = 1
    while following != 0:
        quotient = rest // following
        rest, following = following, rest - quotient * following
        factor, next_factor = next_factor, factor - quotient * next_factor
    return factor


def numbers_with_weight(one, other, total):
    """How many lines of two writers, at least one of each, have the weight together, or None.

    Both writers have lines; they are given by their counts and their weights.
    """
    count, weight = one
    other_count, other_weight = other
    if weight < 0:
        return numbers_with_weight((count, -weight), (other_count, -other_weight), -total)
    divisor = gcd(weight, other_weight)
    if divisor == 0:
        return (1, 1) if total == 0 else None
    if total % divisor != 0:
        return None
    # What the lines of the first writer may weigh, so that the others fit their count.
    ends = sorted([total - other_weight, total - other_weight * other_count])
    if weight == 0:
        return (1, total // other_weight) if ends[0] <= 0 <= ends[1] else None
    first = max(1, -(-ends[0] // weight))
    last = min(count, ends[1] // weight)
    if other_weight == 0:
        return (total // weight, 1) if first <= total // weight <= last else None
    modulus = abs(other_weight) // divisor
    fitting = total // divisor * inverse(weight // divisor, modulus)
    number = first + (fitting - first) % modulus
    return (number, (total - number * weight) // other_weight) if number <= last else None


def lines_with_weight(uniform, total):
    listed = plain_uniform(uniform)
    if listed is None:
        raise InvalidNumbers("not a dict from one or two writers to counts and weights")
    wanted = checked_total(total)
    present = [writer for writer in listed if listed[writer][0] > 0]
    if not present:
        return {} if wanted == 0 else None
    if len(present) == 2:
        numbers = numbers_with_weight(listed[present[0]], listed[present[1]], wanted)
        if numbers is not None:
            # The first lines of one writer and the last lines of the other one have few gaps.
            count = listed[present[1]][0]
            return {present[0]: [(1, numbers[0])], present[1]: [(count - numbers[1] + 1, count)]}
    for writer in present:
        count, weight = listed[writer]
        if count * weight == wanted:
            return {writer: [(1, count)]}
    return None


def is_reachable_weight(uniform, total):
    return lines_with_weight(uniform, total) is not None
