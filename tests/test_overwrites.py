"""Points 26 to 31: gaps, overwrites, covers and schedules with the fewest overwrites."""

import itertools
import random
import unittest

from lastcopy.contents import reverse_content
from lastcopy.errors import InvalidContent, InvalidInteger, InvalidLineCounts
from lastcopy.final import can_be_final, schedule_to_final
from lastcopy.overwrites import (
    disjoint_gaps, gaps, gaps_covered_by, min_overwrites, overwrite_runs,
    schedule_with_min_overwrites,
)
from lastcopy.schedules import count_overwrites, is_schedule, state_after
from tests.support import (
    Prickly, all_contents, compress, expand, model_after, odd_values, random_content,
    random_final, random_schedule, search_overwrites,
)

MOST = 10 ** 30
COUNTS = {"a": 3, "b": 3}
CONTENT = [("a", 1, 1), ("b", 2, 2), ("a", 3, 3)]
SMALL_COUNTS = [
    {"a": 0}, {"a": 1}, {"a": 3}, {"a": 0, "b": 0}, {"b": 2, "a": 0}, {"a": 1, "b": 1},
    {"a": 2, "b": 1}, {"b": 2, "a": 2}, {"a": 3, "b": 1}, {"a": 3, "b": 2}, {"a": 4, "b": 1},
    {"a": 1, "b": 1, "c": 1}, {"a": 2, "c": 1, "b": 1}, {"a": 2, "b": 2, "c": 1},
]


def model_gaps(counts, content):
    """The gaps, from the lines one by one."""
    places = {}
    for at, run in enumerate(content):
        for line in expand([run]):
            places[line] = at
    found = []
    for writer in counts:
        missing = [number for number in range(1, counts[writer] + 1)
                   if (writer, number) not in places]
        for _, first, last in compress([(writer, number) for number in missing]):
            before = places.get((writer, first - 1), -1)
            after = places.get((writer, last + 1), len(content))
            found.append((writer, first, last, before + 1, after - 1))
    return sorted(found)


def covers(found, chosen):
    return all(any(start <= at <= stop for at in chosen) for _, _, _, start, stop in found)


def share_no_run(chosen):
    spans = [set(range(start, stop + 1)) for _, _, _, start, stop in chosen]
    return sum(map(len, spans)) == len(set().union(*spans))


def fewest_runs(found, many):
    """The size of the smallest set of runs that covers the gaps."""
    return next(size for size in range(many + 1)
                if any(covers(found, chosen) for chosen in itertools.combinations(range(many), size)))


def most_gaps(found):
    """The size of the largest set of gaps that share no run."""
    return max(size for size in range(len(found) + 1)
               if any(map(share_no_run, itertools.combinations(found, size))))


def small_finals(counts, longest=6):
    return [compress(lines) for lines in all_contents(counts, min(longest, sum(counts.values())))
            if can_be_final(counts, compress(lines))]


class OverwriteTest(unittest.TestCase):
    def check(self, counts, content):
        """Everything that can be checked without knowing the smallest number."""
        found = gaps(counts, content)
        self.assertIs(type(found), list)
        number = min_overwrites(counts, content)
        self.assertIs(type(number), int)
        chosen = overwrite_runs(counts, content)
        self.assertIs(type(chosen), list)
        self.assertEqual(chosen, sorted(set(chosen)))
        self.assertEqual(len(chosen), number)
        self.assertTrue(all(type(at) is int and 0 <= at < len(content) for at in chosen))
        self.assertIs(covers(found, chosen), True)
        apart = disjoint_gaps(counts, content)
        self.assertIs(type(apart), list)
        self.assertEqual(apart, sorted(set(apart)))
        self.assertEqual(len(apart), number)
        self.assertLessEqual(set(apart), set(found))
        spans = sorted((start, stop) for _, _, _, start, stop in apart)
        self.assertTrue(all(one[1] < two[0] for one, two in zip(spans, spans[1:])))
        self.check_schedule(counts, content, number)
        return found

    def check_schedule(self, counts, content, number):
        schedule = schedule_with_min_overwrites(counts, content)
        self.assertIs(type(schedule), list)
        self.assertIs(is_schedule(counts, schedule), True)
        self.assertEqual(state_after(counts, schedule), (counts, list(content), {}))
        self.assertEqual(count_overwrites(counts, schedule), number)
        held = most = 0
        for action in schedule:
            held += (action[0] == "read") - (action[0] == "save")
            most = max(most, held)
        self.assertLessEqual(most, 2)

    def check_not_final(self, counts, content):
        for function in (gaps, min_overwrites, overwrite_runs, disjoint_gaps,
                         schedule_with_min_overwrites):
            self.assertIsNone(function(counts, content))
        for index in range(len(content)):
            self.assertIsNone(gaps_covered_by(counts, content, index))
        for index in (-1, len(content)):
            with self.assertRaises(InvalidInteger):
                gaps_covered_by(counts, content, index)


class GapTest(OverwriteTest):
    """[26]"""

    def test_example(self):
        self.assertEqual(gaps(COUNTS, CONTENT),
                         [("a", 2, 2, 1, 1), ("b", 1, 1, 0, 0), ("b", 3, 3, 2, 2)])

    def test_gaps(self):
        cases = [
            ({"a": 0}, [], []),
            ({"b": 0, "a": 0}, [], []),
            ({"a": 1}, [("a", 1, 1)], []),
            ({"a": MOST}, [("a", 1, MOST)], []),
            ({"a": 2, "b": 0}, [("a", 1, 2)], []),
            ({"a": 2, "b": 5}, [("a", 1, 2)], [("b", 1, 5, 0, 0)]),
            ({"b": 2, "a": 5}, [("b", 1, 2)], [("a", 1, 5, 0, 0)]),
            # at the beginning, in the middle and at the end; with one run and with many
            ({"a": 2, "b": 3}, [("a", 1, 2), ("b", 3, 3)], [("b", 1, 2, 0, 0)]),
            ({"a": 3, "b": 3}, [("b", 1, 1), ("a", 1, 3), ("b", 3, 3)], [("b", 2, 2, 1, 1)]),
            ({"a": 3, "b": 3}, [("b", 1, 1), ("a", 1, 3)], [("b", 2, 3, 1, 1)]),
            ({"a": 2, "b": 2, "c": 9}, [("a", 1, 1), ("b", 1, 1), ("a", 2, 2), ("b", 2, 2)],
             [("c", 1, 9, 0, 3)]),
            ({"a": 2, "b": 2, "c": 9},
             [("c", 1, 2), ("a", 1, 1), ("b", 1, 1), ("a", 2, 2), ("c", 5, 6), ("b", 2, 2)],
             [("c", 3, 4, 1, 3), ("c", 7, 9, 5, 5)]),
            ({"a": 2, "b": 2, "c": 9},
             [("a", 1, 1), ("b", 1, 1), ("a", 2, 2), ("c", 5, 9), ("b", 2, 2)],
             [("c", 1, 4, 0, 2)]),
            # a writer's next line behind runs of others is no gap
            ({"a": 3, "b": 1}, [("a", 1, 1), ("b", 1, 1), ("a", 2, 3)], []),
            ({"z": MOST, "a": MOST}, [("z", 1, 1), ("a", MOST, MOST)],
             [("a", 1, MOST - 1, 0, 0), ("z", 2, MOST, 1, 1)]),
            ({"z": 2, "m": 2, "a": 2}, [("m", 1, 2)], [("a", 1, 2, 0, 0), ("z", 1, 2, 0, 0)]),
        ]
        for counts, content, expected in cases:
            self.assertEqual(self.check(counts, content), expected)
            self.assertEqual(self.check(counts, tuple(content)), expected)

    def test_random_contents(self):
        chance = random.Random(26)
        for _ in range(400):
            counts = {name: chance.randint(0, 7) for name in chance.sample("abcdef", 4)}
            content = random_final(chance, counts, 8)
            found = self.check(counts, content)
            self.assertEqual(found, model_gaps(counts, content))
            for writer, first, last, start, stop in found:
                self.assertLessEqual(start, stop)
                self.assertNotIn(writer, [run[0] for run in content[start:stop + 1]])

    def test_contents_that_cannot_be_final(self):
        cases = [
            ({"a": 1}, []), ({"a": 0, "b": MOST}, ()), ({"a": 2}, [("a", 2, 2)]),
            ({"a": 2}, [("a", 1, 1)]), (COUNTS, [("a", 1, 1), ("a", 3, 3)]),
            (COUNTS, [("a", 1, 3), ("b", 2, 2), ("a", 1, 3)]), (COUNTS, (("b", 1, 2),)),
            (COUNTS, [("a", 1, 2), ("b", 1, 1), ("a", 2, 3)]),
        ]
        for counts, content in cases:
            self.check_not_final(counts, content)
        chance = random.Random(27)
        for _ in range(300):
            content = random_content(chance, COUNTS, 4)
            if not can_be_final(COUNTS, content):
                self.check_not_final(COUNTS, content)

    def test_errors(self):
        for function in (gaps, min_overwrites, overwrite_runs, disjoint_gaps,
                         schedule_with_min_overwrites):
            with self.assertRaises(InvalidLineCounts):
                function({"a": True}, None)
            with self.assertRaises(InvalidContent):
                function({"a": 1}, [("a", 1, True)])


class SmallestNumberTest(OverwriteTest):
    """[27], [28]"""

    def test_examples(self):
        self.assertEqual(min_overwrites(COUNTS, CONTENT), 3)
        self.assertEqual(min_overwrites({"a": 2, "b": 5}, [("a", 1, 2)]), 1)
        self.assertEqual(overwrite_runs(COUNTS, CONTENT), [0, 1, 2])
        self.assertEqual(disjoint_gaps({"a": 2, "b": 5}, [("a", 1, 2)]), [("b", 1, 5, 0, 0)])

    def test_all_schedules_of_small_counts(self):
        for counts in SMALL_COUNTS:
            least = search_overwrites(counts)
            for lines, number in least.items():
                self.assertEqual(min_overwrites(counts, compress(lines)), number, (counts, lines))
            self.assertEqual(sorted(map(sorted, map(expand, small_finals(counts)))),
                             sorted(map(sorted, least)))

    def test_all_sets_of_runs_and_gaps(self):
        for counts in SMALL_COUNTS:
            for content in small_finals(counts):
                found = self.check(counts, content)
                number = min_overwrites(counts, content)
                self.assertEqual(number, fewest_runs(found, len(content)))
                self.assertEqual(number, most_gaps(found))

    def test_random_contents(self):
        chance = random.Random(28)
        sizes = set()
        for _ in range(300):
            counts = {name: chance.randint(0, 6) for name in chance.sample("abcdefg", 5)}
            content = random_final(chance, counts, 9)
            found = self.check(counts, content)
            number = min_overwrites(counts, content)
            sizes.add((number, len(found), len(content)))
            self.assertEqual(number, fewest_runs(found, len(content)))
            if len(found) <= 10:
                self.assertEqual(number, most_gaps(found))
        self.assertGreater(len(sizes), 30)

    def test_gaps_that_contain_others(self):
        counts = {"a": 9, "b": 9, "c": 9, "d": 9}
        content = [("a", 1, 1), ("b", 2, 2), ("a", 3, 3), ("c", 5, 5), ("b", 9, 9)]
        found = self.check(counts, content)
        self.assertEqual(found, [("a", 2, 2, 1, 1), ("a", 4, 9, 3, 4), ("b", 1, 1, 0, 0),
                                 ("b", 3, 8, 2, 3), ("c", 1, 4, 0, 2), ("c", 6, 9, 4, 4),
                                 ("d", 1, 9, 0, 4)])
        self.assertEqual(min_overwrites(counts, content), 4)
        self.assertEqual(fewest_runs(found, 5), 4)

    def test_every_gap_has_an_overwrite(self):
        chance = random.Random(29)
        for _ in range(600):
            counts = {name: chance.randint(0, 3) for name in "abc"}
            schedule = random_schedule(chance, counts, 40)
            model = model_after(counts, schedule)
            self.assertEqual(model.saved, counts)
            content = compress(model.page)
            for _, _, _, start, stop in gaps(counts, content):
                covering = expand(content[start:stop + 1])
                self.assertTrue(set(covering) & set(model.overwriting))
            self.assertLessEqual(min_overwrites(counts, content), len(model.overwriting))

    def test_never_more_than_other_schedules(self):
        chance = random.Random(30)
        for _ in range(100):
            counts = {name: chance.randint(0, MOST) for name in "abcd"}
            content = random_final(chance, counts, 9)
            other = count_overwrites(counts, schedule_to_final(counts, content))
            self.assertLessEqual(min_overwrites(counts, content), other)


class ScheduleTest(OverwriteTest):
    """[29]"""

    def test_examples(self):
        self.assertIsNone(schedule_with_min_overwrites({"a": 2}, [("a", 2, 2)]))
        self.check_schedule(COUNTS, CONTENT, 3)
        self.check_schedule({"a": 2, "b": 5}, [("a", 1, 2)], 1)
        self.assertEqual(schedule_with_min_overwrites({"a": 0}, []), [])

    def test_line_by_line(self):
        chance = random.Random(31)
        for _ in range(300):
            counts = {name: chance.randint(0, 6) for name in chance.sample("abcdef", 5)}
            content = random_final(chance, counts, 8)
            schedule = schedule_with_min_overwrites(counts, content)
            model = model_after(counts, schedule)
            self.assertEqual(compress(model.page), content)
            self.assertEqual((model.saved, model.copies), (counts, {}))
            self.assertEqual(len(model.overwriting), min_overwrites(counts, content))
            self.assertLessEqual(model.most_copies, 2)

    def test_200_runs_and_more(self):
        for many in (200, 201, 400):
            counts = {letter: 2 * many for letter in "abcdefghijkl"}
            content = [("abc"[at % 3], 1 if at == 0 else 2 * at, 1 if at == 0 else 2 * at)
                       for at in range(many)]
            content[-1] = (content[-1][0], content[-1][1], 2 * many)
            found = self.check(counts, content)
            for index in (0, 1, many // 2, many - 1):
                self.assertEqual(gaps_covered_by(counts, content, index),
                                 [gap for gap in found if gap[3] <= index <= gap[4]])

    def test_twelve_writers_and_large_counts(self):
        chance = random.Random(32)
        counts = {letter * 8: MOST for letter in "abcdefghijkl"}
        for _ in range(30):
            self.check(counts, random_final(chance, counts, 40))


class CoveredTest(OverwriteTest):
    """[29]"""

    def test_example(self):
        self.assertEqual(gaps_covered_by(COUNTS, CONTENT, 1), [("a", 2, 2, 1, 1)])

    def test_every_index(self):
        chance = random.Random(33)
        for _ in range(300):
            counts = {name: chance.randint(0, 6) for name in chance.sample("abcdef", 4)}
            content = random_final(chance, counts, 7)
            for index in range(len(content)):
                self.assertEqual(gaps_covered_by(counts, content, index),
                                 [gap for gap in model_gaps(counts, content)
                                  if index in range(gap[3], gap[4] + 1)])

    def test_wrong_index(self):
        for content, numbers in ((CONTENT, [3, 4, -1, -3]), ([("a", 1, 3)], [1, -1])):
            wrong = numbers + [MOST, -MOST, 10 ** 40, True, False, 0.0, "0", [0], (0,), Prickly()]
            for index in wrong + odd_values():
                with self.assertRaises(InvalidInteger):
                    gaps_covered_by(COUNTS, content, index)
        for index in (0, -1, 1, None, "0"):
            with self.assertRaises(InvalidInteger):
                gaps_covered_by({"a": 0}, [], index)
            with self.assertRaises(InvalidInteger):
                gaps_covered_by({"a": 1}, [], index)

    def test_order_of_errors(self):
        for index in (0, 5, None, True):
            with self.assertRaises(InvalidLineCounts):
                gaps_covered_by({"a": -1}, None, index)
            with self.assertRaises(InvalidContent):
                gaps_covered_by({"a": 1}, [("a", 1, 2)], index)
        self.assertIsNone(gaps_covered_by({"a": 2}, [("a", 2, 2)], 0))
        with self.assertRaises(InvalidInteger):
            gaps_covered_by({"a": 2}, [("a", 2, 2)], 1)


class PropertyTest(OverwriteTest):
    """[30], [31]"""

    def test_zero_exactly_if_all_lines_are_there(self):
        chance = random.Random(34)
        for counts in SMALL_COUNTS:
            for content in small_finals(counts):
                full = len(expand(content)) == sum(counts.values())
                self.assertIs(min_overwrites(counts, content) == 0, full)
        for _ in range(200):
            counts = {name: chance.randint(0, 3) for name in "abc"}
            content = random_final(chance, counts, 8)
            full = len(expand(content)) == sum(counts.values())
            self.assertIs(min_overwrites(counts, content) == 0, full)
        self.assertEqual(min_overwrites({"a": MOST, "b": MOST}, [("b", 1, MOST), ("a", 1, MOST)]), 0)

    def test_one_overwrite_loses_all_of_the_others(self):
        counts = {letter: MOST for letter in "abcdefghijkl"}
        content = [("f", 1, MOST)]
        self.assertEqual(min_overwrites(counts, content), 1)
        self.assertEqual(len(gaps(counts, content)), 11)
        self.check_schedule(counts, content, 1)

    def test_two_writers_can_need_two(self):
        self.assertEqual(min_overwrites({"a": 2, "b": 2}, [("a", 1, 1), ("b", 2, 2)]), 2)

    def test_reversal(self):
        chance = random.Random(35)
        for _ in range(300):
            counts = {name: chance.randint(0, 6) for name in chance.sample("abcdef", 4)}
            content = random_final(chance, counts, 8)
            turned = reverse_content(counts, content)
            many = len(content)
            mirrored = sorted((writer, counts[writer] + 1 - last, counts[writer] + 1 - first,
                               many - 1 - stop, many - 1 - start)
                              for writer, first, last, start, stop in gaps(counts, content))
            self.assertEqual(gaps(counts, turned), mirrored)
            self.assertEqual(min_overwrites(counts, turned), min_overwrites(counts, content))


if __name__ == "__main__":
    unittest.main()
