"""Points 39 to 44: counting line sets that survive and contents that are final."""

import collections
import itertools
import math
import random
import unittest

from lastcopy.contents import reverse_content
from lastcopy.counting import (
    can_survive_counts, count_contents_by_runs, count_final_contents, count_survivor_sets,
    min_surviving_lines,
)
from lastcopy.errors import InvalidInteger, InvalidLineCounts, InvalidNumbers, TooManyResults
from tests.support import Prickly, all_line_sets, compress, odd_values, search_contents

MOST = 10 ** 30
LETTERS = "abcdefghijkl"
# For these all schedules are searched.
SMALL_COUNTS = [
    {"a": 0}, {"a": 1}, {"a": 2}, {"a": 4}, {"a": 0, "b": 0}, {"a": 0, "b": 3}, {"a": 1, "b": 1},
    {"b": 2, "a": 1}, {"a": 2, "b": 2}, {"a": 3, "b": 1}, {"a": 3, "b": 2}, {"a": 4, "b": 1},
    {"c": 1, "a": 1, "b": 1}, {"a": 2, "b": 1, "c": 1}, {"a": 2, "b": 2, "c": 1}, {"n": 0, "a": 2},
    {"a": 1, "b": 1, "c": 1, "d": 1},
]
# For these the contents are made by the rule of point 19.
MORE_COUNTS = [
    {"a": 7}, {"a": 5, "b": 2}, {"a": 4, "b": 4}, {"a": 6, "b": 1, "n": 0}, {"a": 3, "b": 3, "c": 2},
    {"a": 2, "b": 2, "c": 2, "d": 1}, {"a": 5, "b": 1, "c": 1}, {"a": 1, "b": 1, "c": 1, "d": 2},
]


def final_contents(counts):
    """All contents that can be final, each as a tuple of lines, by the rule of point 19."""
    found = [] if any(counts.values()) else [()]
    waiting = [((), dict.fromkeys(counts, 0))]
    while waiting:
        content, latest = waiting.pop()
        for writer, count in counts.items():
            numbers = range(latest[writer] + 1, count + 1)
            if not content or content[-1][0] == writer:
                numbers = numbers[:1]
            for number in numbers:
                longer = content + ((writer, number),)
                waiting.append((longer, dict(latest, **{writer: number})))
                if number == count:
                    found.append(longer)
    return found


def subsets(count, size, most_gaps):
    """How many sets of so many of 1 to count have so many gaps at most, by what ends they have.

    The ends are "none", "first", "last", "same" for a number that is both, or "two".
    """
    found = collections.Counter()
    if size == 0:
        found["none"] = int(count == 0 or most_gaps > 0)
        return found
    for first, last in itertools.product((False, True), repeat=2):
        ends = "two" if first and last else "first" if first else "last" if last else "none"
        if ends == "two" and count == 1:
            ends = "same"
        for gaps in range(most_gaps + 1):
            parts = gaps + 1 - (not first) - (not last)
            if gaps == 0:
                ways = int(first and last and size == count)
            elif parts < 1 or count <= size:
                ways = 0
            else:
                ways = math.comb(size - 1, parts - 1) * math.comb(count - size - 1, gaps - 1)
            found[ends] += ways
    return found


def join_ends(one, other):
    if "two" in (one, other) or (one != "none" and other != "none"
                                 and {one, other} not in ({"first"}, {"last"})):
        return "two"
    return other if one == "none" else one


def model_survivor_sets(counts, size):
    """The sets of point 41, writer by writer: each one's gaps are limited by its own lines."""
    sums = collections.Counter({(0, "none"): 1})
    for count in counts.values():
        longer = collections.Counter()
        for lines in range(min(count, size) + 1):
            for ends, ways in subsets(count, lines, size - lines).items():
                for (before, old), number in sums.items():
                    if ways and before + lines <= size:
                        longer[before + lines, join_ends(old, ends)] += number * ways
        sums = longer
    if size == 0:
        return int(not any(counts.values()))
    return sums[size, "two"] + (sums[size, "same"] if size == 1 else 0)


def model_by_runs(counts, runs):
    """The sum over all sequences of writers, by the words of point 42."""
    places = [writer for writer in runs for _ in range(runs[writer])]
    if not places:
        return int(not any(counts.values()))
    total = 0
    for sequence in set(itertools.permutations(places)):
        if any(one == two for one, two in zip(sequence, sequence[1:])):
            continue
        product = 1
        for writer in set(sequence):
            lines, many = counts[writer], runs[writer]
            ends = (sequence[0] == writer) + (sequence[-1] == writer)
            product *= math.comb(lines + many - ends, 2 * many - ends) if lines else 0
        total += product
    return total


def model_final_contents(counts):
    """The number of final contents, by the latest numbers of all writers and the last writer."""
    counts = {writer: count for writer, count in counts.items() if count}
    writers = sorted(counts)
    if not writers:
        return 1
    # ending[v, at]: contents with the latest numbers v that end with the writer at.
    # sums[at][v]: contents that end with another writer, over all its numbers up to the one in v.
    ending = {}
    sums = [{} for _ in writers]
    for numbers in itertools.product(*[range(counts[writer] + 1) for writer in writers]):
        before = [numbers[:at] + (number - 1,) + numbers[at + 1:]
                  for at, number in enumerate(numbers)]
        for at, number in enumerate(numbers):
            ending[numbers, at] = int(sum(numbers) == 1 and number == 1)
            if number:
                ending[numbers, at] += sums[at].get(before[at], 0) + ending[before[at], at]
        total = sum(ending[numbers, at] for at in range(len(writers)))
        for at in range(len(writers)):
            sums[at][numbers] = sums[at].get(before[at], 0) + total - ending[numbers, at]
    return sum(ways for (numbers, at), ways in ending.items() if numbers[at] == counts[writers[at]])


class CountTest(unittest.TestCase):
    def check_too_many(self, total, function, *arguments):
        with self.assertRaises(TooManyResults) as caught:
            function(*arguments)
        self.assertEqual(caught.exception.total, total)


class ModelTest(CountTest):
    def test_models_agree_with_all_schedules(self):
        for counts in SMALL_COUNTS:
            _, finals = search_contents(counts)
            self.assertEqual(sorted(final_contents(counts)), sorted(finals))
            self.assertEqual(model_final_contents(counts), len(finals))

    def test_models_agree_with_the_rule(self):
        for counts in MORE_COUNTS:
            finals = final_contents(counts)
            self.assertEqual(model_final_contents(counts), len(finals))


class SurviveCountsTest(CountTest):
    """[39]"""

    def test_examples(self):
        self.assertIs(can_survive_counts({"a": 2, "b": 2}, {"a": 1}), False)
        self.assertIs(can_survive_counts({"a": 2, "b": 2}, {"a": 1, "b": 1}), True)
        with self.assertRaises(InvalidNumbers):
            can_survive_counts({"a": 2}, {"q": 1})

    def test_cases(self):
        cases = [
            ({"a": 0}, {}, True), ({"a": 0}, {"a": 0}, True), ({"a": 0, "b": 0}, {"b": 0}, True),
            ({"a": 0}, {"a": 1}, False), ({"a": 1}, {}, False), ({"a": 1}, {"a": 0}, False),
            ({"a": 1}, {"a": 1}, True), ({"a": 1}, {"a": 2}, False), ({"a": 3}, {"a": 2}, False),
            ({"a": 3}, {"a": 3}, True), ({"a": 3, "b": 0}, {"a": 3, "b": 0}, True),
            ({"a": 3, "b": 5}, {"a": 3}, True), ({"a": 3, "b": 5}, {"b": 5}, True),
            ({"a": 3, "b": 5}, {"b": 4}, False), ({"a": 3, "b": 5}, {"a": 1, "b": 6}, False),
            ({"a": 3, "b": 5}, {"a": 4, "b": 5}, False), ({"a": 3, "b": 5}, {"a": 3, "b": 1}, True),
            ({"a": 0, "b": 5}, {"a": 1, "b": 5}, False),
            ({"a": MOST, "b": MOST, "c": 1}, {"a": MOST, "b": 1}, True),
            ({"a": MOST, "b": 1}, {"a": MOST - 1}, False), ({"a": MOST, "b": 1}, {"a": MOST}, True),
            ({"a": MOST - 1, "b": 1}, {"a": MOST}, False),
        ]
        for counts, table, expected in cases:
            self.assertIs(can_survive_counts(counts, table), expected, (counts, table))

    def test_all_contents_of_small_counts(self):
        for counts in SMALL_COUNTS + MORE_COUNTS:
            numbers = {tuple(sum(line[0] == writer for line in lines) for writer in counts)
                       for lines in final_contents(counts)}
            for table in itertools.product(*[range(count + 2) for count in counts.values()]):
                full = dict(zip(counts, table))
                self.assertIs(can_survive_counts(counts, full), table in numbers)
                part = {writer: number for writer, number in full.items() if number}
                self.assertIs(can_survive_counts(counts, part), table in numbers)

    def test_wrong_tables(self):
        counts = {"a": 2, "b": 0}
        wrong = [
            [], (), "a", [("a", 1)], {"a"}, {"q": 1}, {"a": 1, "q": 0}, {"A": 1}, {1: 1}, {"": 0},
            {"a": -1}, {"a": True}, {"a": False}, {"a": 1.0}, {"a": "1"}, {"a": None}, {"a": [1]},
            {"a": MOST + 1}, {"b": 10 ** 40}, {"a": 1, "b": -1}, {b"a": 1}, {"a": Prickly()},
        ]
        for value in wrong + odd_values():
            for function in (can_survive_counts, count_contents_by_runs):
                with self.assertRaises(InvalidNumbers):
                    function(counts, value)
                with self.assertRaises(InvalidLineCounts):
                    function({"a": True}, value)
        self.assertIs(can_survive_counts(counts, {"a": MOST, "b": MOST}), False)


class SmallestTest(CountTest):
    """[40]"""

    def test_example(self):
        self.assertEqual(min_surviving_lines({"a": 3, "b": 5}), 2)

    def test_cases(self):
        cases = [
            ({"a": 0}, 0), ({"a": 0, "b": 0}, 0), ({"a": 1}, 1), ({"a": 2}, 2), ({"a": 7}, 7),
            ({"a": MOST}, MOST), ({"a": 0, "b": MOST}, MOST), ({"a": 1, "b": MOST}, 1),
            ({"a": MOST, "b": 1, "c": 3}, 1), ({"a": MOST, "b": MOST}, 2),
            ({"a": 2, "b": 2, "c": 0}, 2), ({letter: MOST for letter in LETTERS}, 2),
        ]
        for counts, expected in cases:
            self.assertEqual(min_surviving_lines(counts), expected)

    def test_all_contents_of_small_counts(self):
        for counts in SMALL_COUNTS + MORE_COUNTS:
            self.assertEqual(min_surviving_lines(counts), min(map(len, final_contents(counts))))


class SurvivorSetTest(CountTest):
    """[41]"""

    def test_examples(self):
        self.assertEqual(count_survivor_sets({"a": 2, "b": 2}, 2), 4)
        with self.assertRaises(InvalidInteger):
            count_survivor_sets({"a": 2, "b": 2}, 61)

    def test_all_contents_of_small_counts(self):
        for counts in SMALL_COUNTS + MORE_COUNTS:
            sets = {tuple(sorted(lines)) for lines in final_contents(counts)}
            sizes = collections.Counter(map(len, sets))
            for size in range(sum(counts.values()) + 3):
                self.assertEqual(count_survivor_sets(counts, size), sizes[size], (counts, size))
                self.assertEqual(model_survivor_sets(counts, size), sizes[size], (counts, size))
            self.assertEqual(count_survivor_sets(counts, 60), sizes[60])

    def test_all_line_sets(self):
        for counts in ({"a": 5, "b": 3}, {"a": 1, "b": 4, "c": 2}, {"a": 3, "b": 3, "c": 3}):
            sizes = collections.Counter()
            for lines in all_line_sets(counts):
                firsts = {line for line in lines if line[1] == 1}
                lasts = {line for line in lines if line[1] == counts[line[0]]}
                ends = firsts and lasts and len(firsts | lasts) > 1 or len(lines) == 1 and firsts == lasts
                fits = all(self.gaps_of(writer, counts, lines)
                           <= sum(line[0] != writer for line in lines) for writer in counts)
                sizes[len(lines)] += bool(ends and fits)
            for size in range(1, sum(counts.values()) + 1):
                self.assertEqual(count_survivor_sets(counts, size), sizes[size], (counts, size))

    def gaps_of(self, writer, counts, lines):
        missing = [number for number in range(1, counts[writer] + 1) if (writer, number) not in lines]
        return sum(number - 1 not in missing for number in missing)

    def test_larger_counts(self):
        chance = random.Random(41)
        for _ in range(60):
            counts = {name: chance.choice([0, 1, 2, 3, 9, 40, MOST])
                      for name in chance.sample(LETTERS, chance.randint(1, 5))}
            for size in chance.sample(range(20), 3):
                self.assertEqual(count_survivor_sets(counts, size), model_survivor_sets(counts, size))
        for counts in ({"a": MOST, "b": MOST}, {"a": 40, "b": 30, "c": 1}, {"a": 61, "b": 1}):
            for size in (30, 58, 59, 60):
                self.assertEqual(count_survivor_sets(counts, size), model_survivor_sets(counts, size))

    def test_sizes_one_and_two(self):
        for counts in ({"a": 1, "b": 1, "c": 1, "d": MOST}, {"a": 2, "b": MOST, "c": 0},
                       {letter: MOST for letter in LETTERS}, {"a": 2}, {"a": MOST}, {"a": 1}):
            numbers = [number for number in counts.values() if number]
            ones = numbers.count(1)
            self.assertEqual(count_survivor_sets(counts, 1), ones)
            pairs = len(numbers) * (len(numbers) - 1) - math.comb(ones, 2) + numbers.count(2)
            self.assertEqual(count_survivor_sets(counts, 2), pairs)

    def test_no_and_all_lines(self):
        for size in range(61):
            self.assertEqual(count_survivor_sets({"a": 0}, size), int(size == 0))
            self.assertEqual(count_survivor_sets({"a": 0, "b": 0}, size), int(size == 0))
            self.assertEqual(count_survivor_sets({"a": 60}, size), int(size == 60))
            self.assertEqual(count_survivor_sets({"a": 61}, size), 0)
            self.assertEqual(count_survivor_sets({"a": 1}, size), int(size == 1))
        self.assertEqual(count_survivor_sets({"a": 30, "b": 30}, 60), 1)
        self.assertEqual(count_survivor_sets({"a": 30, "b": 29}, 60), 0)
        self.assertEqual(count_survivor_sets({letter: 5 for letter in LETTERS}, 60), 1)

    def test_largest_arguments(self):
        counts = {letter * 8: MOST for letter in LETTERS}
        self.assertGreater(count_survivor_sets(counts, 60), MOST ** 50)
        self.assertEqual(count_survivor_sets(counts, 2), 132)

    def test_wrong_sizes(self):
        for counts in ({"a": 2, "b": 2}, {"a": 0}, {"a": MOST}):
            for size in odd_values() + [61, 62, -1, MOST, 10 ** 40, -MOST, True, False, 2.0, "2", [2]]:
                with self.assertRaises(InvalidInteger):
                    count_survivor_sets(counts, size)
                with self.assertRaises(InvalidLineCounts):
                    count_survivor_sets({}, size)


class ByRunsTest(CountTest):
    """[42]"""

    def test_examples(self):
        self.assertEqual(count_contents_by_runs({"a": 2, "b": 2}, {"a": 1, "b": 1}), 8)
        self.check_too_many(20001, count_contents_by_runs, {"a": 2, "b": 2}, {"a": 20000})

    def test_all_contents_of_small_counts(self):
        for counts in SMALL_COUNTS + MORE_COUNTS:
            found = collections.Counter()
            for lines in final_contents(counts):
                content = compress(lines)
                found[tuple(sum(run[0] == writer for run in content) for writer in counts)] += 1
            for numbers in itertools.product(range(4), repeat=len(counts)):
                table = dict(zip(counts, numbers))
                self.assertEqual(count_contents_by_runs(counts, table), found[numbers], table)
                part = {writer: number for writer, number in table.items() if number}
                self.assertEqual(count_contents_by_runs(counts, part), found[numbers])

    def test_sum_over_all_sequences(self):
        chance = random.Random(42)
        for _ in range(150):
            names = chance.sample(LETTERS, chance.randint(1, 4))
            counts = {name: chance.choice([0, 1, 5, 60, MOST]) for name in names}
            table = {name: chance.randint(0, 2) for name in names}
            if chance.random() < 0.3 and sum(table.values()) < 5:
                table[names[0]] = 3
            self.assertEqual(count_contents_by_runs(counts, table), model_by_runs(counts, table))

    def test_two_writers(self):
        # With two writers the runs alternate, so there are at most two sequences.
        for one, two in ((1, 1), (140, 140), (139, 140), (140, 139), (99, 99), (50, 51)):
            counts = {"a": 10 ** 6, "b": MOST}
            numbers = {"a": one, "b": two}
            total = 0
            for first in "ab":
                second = "b" if first == "a" else "a"
                if numbers[first] - numbers[second] not in (0, 1):
                    continue
                same = numbers[first] > numbers[second]
                product = 1
                for writer, ends in ((first, 2 if same else 1), (second, 0 if same else 1)):
                    product *= math.comb(counts[writer] + numbers[writer] - ends,
                                         2 * numbers[writer] - ends)
                total += product
            self.assertEqual(count_contents_by_runs(counts, numbers), total)

    def test_too_many_runs_of_one_writer(self):
        counts = {"a": MOST, "b": MOST, "c": MOST}
        for table in ({"a": 2}, {"a": 19999}, {"a": 9999, "b": 1}, {"a": 3, "b": 1},
                      {"a": 4, "b": 1, "c": 1}, {"a": 3000, "b": 1, "c": 2}):
            self.assertEqual(count_contents_by_runs(counts, table), 0)

    def test_one_run(self):
        self.assertEqual(count_contents_by_runs({"a": MOST, "b": 3}, {"a": 1}), 1)
        self.assertEqual(count_contents_by_runs({"a": 1}, {"a": 1}), 1)
        self.assertEqual(count_contents_by_runs({"a": 0}, {"a": 1}), 0)
        self.assertEqual(count_contents_by_runs({"a": 0, "b": 3}, {"a": 1}), 0)
        self.assertEqual(count_contents_by_runs({"a": 0, "b": 3}, {"a": 1, "b": 1}), 0)

    def test_no_runs(self):
        for counts, expected in (({"a": 0}, 1), ({"a": 0, "b": 0}, 1), ({"a": 1}, 0),
                                 ({"a": 0, "b": MOST}, 0)):
            self.assertEqual(count_contents_by_runs(counts, {}), expected)
            self.assertEqual(count_contents_by_runs(counts, dict.fromkeys(counts, 0)), expected)

    def test_limit(self):
        big = {letter: MOST for letter in LETTERS}
        cases = [
            (big, {"a": 20000}, 20001), (big, {"a": 10000, "b": 1}, 20002),
            (big, {"a": 58, "b": 338}, 20001), (big, {"a": 72, "b": 273, "c": 0}, 20002),
            (big, {"a": MOST}, MOST + 1), (big, dict.fromkeys(LETTERS, 2), 3 ** 12),
            (big, dict.fromkeys(LETTERS, MOST), (MOST + 1) ** 12),
            ({"a": 2, "b": 0}, {"b": 20000}, 20001), ({"a": 0}, {"a": 20000}, 20001),
        ]
        for counts, table, total in cases:
            self.check_too_many(total, count_contents_by_runs, counts, table)
        # Here the product is 20,000.
        for table in ({"a": 19999}, {"a": 9999, "b": 1}, {"a": 159, "b": 124}):
            self.assertEqual(count_contents_by_runs(big, table), 0)

    def test_errors_before_the_limit(self):
        with self.assertRaises(InvalidLineCounts):
            count_contents_by_runs({"a": -1}, {"a": 20000})
        with self.assertRaises(InvalidNumbers):
            count_contents_by_runs({"a": 1}, {"a": 20000, "b": True})
        with self.assertRaises(InvalidNumbers):
            count_contents_by_runs({"a": 1, "b": 1}, {"b": 20000, "a": -1})


class FinalContentsTest(CountTest):
    """[43]"""

    def test_examples(self):
        self.assertEqual(count_final_contents({"a": 2, "b": 2}), 18)
        self.check_too_many(20001, count_final_contents, {"a": 20000})

    def test_all_contents_of_small_counts(self):
        for counts in SMALL_COUNTS + MORE_COUNTS:
            self.assertEqual(count_final_contents(counts), len(final_contents(counts)), counts)

    def test_sum_over_all_numbers_of_runs(self):
        for counts in ({"a": 2, "b": 2}, {"a": 4, "b": 2}, {"a": 2, "b": 1, "c": 2}, {"a": 0}):
            total = sum(count_contents_by_runs(counts, dict(zip(counts, numbers)))
                        for numbers in itertools.product(range(6), repeat=len(counts)))
            self.assertEqual(count_final_contents(counts), total)

    def test_larger_counts(self):
        for counts in ({"a": 20, "b": 13}, {"a": 159, "b": 124}, {"a": 300, "b": 2}, {"a": 40, "b": 6,
                       "c": 3}, {letter: 1 for letter in LETTERS}, {"a": 26, "b": 26, "c": 26},
                       {letter: 2 for letter in "abcdefghi"}, {"a": 1, "b": 9999}, {"n": 0, "a": 99}):
            self.assertEqual(count_final_contents(counts), model_final_contents(counts))

    def test_one_writer(self):
        for count in (1, 2, 3, 50, 19999):
            self.assertEqual(count_final_contents({"a": count}), 1)
            self.assertEqual(count_final_contents({"a": count, "b": 0, "c": 0}), 1)
        self.assertEqual(count_final_contents({"a": 0}), 1)
        self.assertEqual(count_final_contents({"a": 0, "b": 0}), 1)

    def test_limit(self):
        for counts, total in (({"a": 20000, "b": 0}, 20001), ({"a": 10000, "b": 1}, 20002),
                              ({"a": 58, "b": 338}, 20001), ({"a": MOST}, MOST + 1),
                              ({letter: MOST for letter in LETTERS}, (MOST + 1) ** 12),
                              ({letter: 2 for letter in LETTERS}, 3 ** 12)):
            self.check_too_many(total, count_final_contents, counts)
        self.assertGreater(count_final_contents({"a": 159, "b": 124}), 1)

    def test_errors(self):
        for value in odd_values() + [{}, {"a": -1}, {"a": True}, {"a": 20000, "b": -1}]:
            for function in (count_final_contents, min_surviving_lines):
                with self.assertRaises(InvalidLineCounts):
                    function(value)


class PropertyTest(CountTest):
    """[44]"""

    def results(self, counts, table, size):
        return [can_survive_counts(counts, table), min_surviving_lines(counts),
                count_survivor_sets(counts, size), count_contents_by_runs(counts, table),
                count_final_contents(counts)]

    def test_names_and_writers_without_lines(self):
        chance = random.Random(44)
        for _ in range(150):
            names = chance.sample(LETTERS, chance.randint(1, 4))
            counts = {name: chance.randint(0, 5) for name in names}
            table = {name: chance.randint(0, 3) for name in names if counts[name]}
            size = chance.randint(0, 8)
            expected = self.results(counts, table, size)
            others = chance.sample(["zz", "q", "longname", "b", "m", "a"], len(names))
            other = dict(zip(names, others))
            renamed = {other[name]: counts[name] for name in reversed(names)}
            moved = {other[name]: number for name, number in table.items()}
            self.assertEqual(self.results(renamed, moved, size), expected)
            more = dict(renamed, nolines=0, aa=0)
            self.assertEqual(self.results(more, dict(moved, aa=0), size), expected)

    def test_direction(self):
        for counts in SMALL_COUNTS:
            if any(counts.values()):
                finals = [compress(lines) for lines in final_contents(counts)]
                turned = [reverse_content(counts, content) for content in finals]
                self.assertEqual(sorted(turned), sorted(finals))


if __name__ == "__main__":
    unittest.main()
