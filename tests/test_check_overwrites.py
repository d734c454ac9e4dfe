"""Point 28: the checks of covers and of gaps that share no run."""

import itertools
import random
import unittest

from lastcopy.check_overwrites import are_disjoint_gaps, covers_all_gaps
from lastcopy.errors import InvalidContent, InvalidLineCounts
from lastcopy.overwrites import disjoint_gaps, gaps, min_overwrites, overwrite_runs
from tests.support import Prickly, odd_values, random_final

MOST = 10 ** 30
COUNTS = {"a": 3, "b": 3}
CONTENT = [("a", 1, 1), ("b", 2, 2), ("a", 3, 3)]
WIDE = {"a": 4, "b": 4, "c": 4, "d": 1}
# Its gaps, by their runs: b 1 at 0; c 1 at 0 and 1; a 2-3 at 1 and 2; c 3 at 3; b 3-4 at 2 to 4;
# d 1 at all.
WIDE_CONTENT = [("a", 1, 1), ("b", 2, 2), ("c", 2, 2), ("a", 4, 4), ("c", 4, 4)]


def is_cover(found, chosen):
    return all(any(start <= at <= stop for at in chosen) for _, _, _, start, stop in found)


def share_no_run(chosen):
    spans = [set(range(start, stop + 1)) for _, _, _, start, stop in chosen]
    return sum(map(len, spans)) == len(set().union(*spans))


def ordered_choices(items, longest):
    """Lists of the items in every order, also with an item twice."""
    for size in range(longest + 1):
        yield from map(list, itertools.product(items, repeat=size))


class CoverTest(unittest.TestCase):
    def test_example(self):
        self.assertIs(covers_all_gaps(COUNTS, CONTENT, [0, 1]), False)
        self.assertIs(covers_all_gaps(COUNTS, CONTENT, [0, 1, 2]), True)

    def test_every_list_of_indices(self):
        cases = [
            (COUNTS, CONTENT), (WIDE, WIDE_CONTENT), ({"a": 2, "b": 5}, [("a", 1, 2)]),
            ({"a": 2, "b": 1}, [("a", 1, 1), ("b", 1, 1), ("a", 2, 2)]),
            ({"a": 2, "b": 1, "c": 1}, [("a", 1, 1), ("b", 1, 1), ("a", 2, 2)]),
            ({"a": 0}, []), ({"a": 3}, [("a", 1, 3)]),
        ]
        for counts, content in cases:
            found = gaps(counts, content)
            for value in ordered_choices(range(-1, len(content) + 1), 3):
                expected = (value == sorted(set(value))
                            and all(0 <= at < len(content) for at in value)
                            and is_cover(found, value))
                self.assertIs(covers_all_gaps(counts, content, value), expected, value)
                self.assertIs(covers_all_gaps(counts, tuple(content), value), expected, value)

    def test_more_runs_than_needed(self):
        for counts, content in ((COUNTS, CONTENT), (WIDE, WIDE_CONTENT)):
            self.assertIs(covers_all_gaps(counts, content, list(range(len(content)))), True)
        self.assertIs(covers_all_gaps({"a": 2, "b": 1}, [("a", 1, 1), ("b", 1, 1), ("a", 2, 2)],
                                      [0, 2]), True)

    def test_random_contents(self):
        chance = random.Random(28)
        for _ in range(200):
            counts = {name: chance.choice([0, 2, 5, MOST]) for name in "abcde"}
            content = random_final(chance, counts, 8)
            found = gaps(counts, content)
            chosen = overwrite_runs(counts, content)
            self.assertIs(covers_all_gaps(counts, content, chosen), True)
            for at in range(len(chosen)):
                self.assertIs(covers_all_gaps(counts, content, chosen[:at] + chosen[at + 1:]), False)
            for size in range(len(content) + 1):
                value = sorted(chance.sample(range(len(content)), size))
                self.assertIs(covers_all_gaps(counts, content, value), is_cover(found, value))
                if size < min_overwrites(counts, content):
                    self.assertIs(covers_all_gaps(counts, content, value), False)

    def test_wrong_values(self):
        good = [0, 1, 2]
        wrong = [
            (0, 1, 2), {0: 0, 1: 1, 2: 2}, {0, 1, 2}, range(3), iter(good), "012", b"012", 3, None,
            [0, 1, 1, 2], [0, 2, 1], [2, 1, 0], [0, 0, 1, 2], [-1, 0, 1, 2], [0, 1, 2, 3],
            [-3, 0, 1, 2], [0, 1, 2, MOST], [0, 1, 2, 10 ** 40], [False, 1, 2], [0, True, 2],
            [0, 1, 2.0], ["0", 1, 2], [0, 1, None], [0, [1], 2], [[0, 1, 2]], [0, (1,), 2],
            [0, 1, Prickly()], [Prickly(), 1, 2], [], [0], [[]], [0, 1, 2, None],
        ]
        self.assertIs(covers_all_gaps(COUNTS, CONTENT, good), True)
        for value in wrong + odd_values():
            self.assertIs(covers_all_gaps(COUNTS, CONTENT, value), False)

    def test_booleans_are_no_indices(self):
        counts = {"a": 2, "b": 1}
        content = [("a", 1, 1), ("b", 1, 1), ("a", 2, 2)]
        self.assertIs(covers_all_gaps(counts, content, [0, 1]), True)
        self.assertIs(covers_all_gaps(counts, content, [False]), False)
        self.assertIs(covers_all_gaps(counts, content, [0, True]), False)
        self.assertIs(covers_all_gaps({"a": 2, "b": 5}, [("a", 1, 2)], [0]), True)
        self.assertIs(covers_all_gaps({"a": 2, "b": 5}, [("a", 1, 2)], [False]), False)

    def test_no_gaps(self):
        self.assertIs(covers_all_gaps({"a": 0}, [], []), True)
        self.assertIs(covers_all_gaps({"a": 0}, [], [0]), False)
        self.assertIs(covers_all_gaps({"a": 3}, [("a", 1, 3)], []), True)
        self.assertIs(covers_all_gaps({"a": 3}, [("a", 1, 3)], [0]), True)
        for value in odd_values() + [(), {}]:
            self.assertIs(covers_all_gaps({"a": 0}, [], value), False)
            self.assertIs(covers_all_gaps({"a": 3}, [("a", 1, 3)], value), False)


class DisjointTest(unittest.TestCase):
    def test_example(self):
        self.assertIs(are_disjoint_gaps({"a": 2, "b": 5}, [("a", 1, 2)], [("b", 1, 5, 0, 0)]), True)

    def test_every_list_of_gaps(self):
        cases = [
            (COUNTS, CONTENT), (WIDE, WIDE_CONTENT), ({"a": 2, "b": 5, "c": 1}, [("a", 1, 2)]),
            ({"a": 2, "b": 2}, [("a", 1, 1), ("b", 2, 2)]),
        ]
        for counts, content in cases:
            found = gaps(counts, content)
            for value in ordered_choices(found, 3):
                expected = value == sorted(set(value)) and share_no_run(value)
                self.assertIs(are_disjoint_gaps(counts, content, value), expected, value)
                self.assertIs(are_disjoint_gaps(counts, tuple(content), value), expected, value)

    def test_random_contents(self):
        chance = random.Random(29)
        for _ in range(200):
            counts = {name: chance.choice([0, 2, 5, MOST]) for name in "abcde"}
            content = random_final(chance, counts, 8)
            found = gaps(counts, content)
            chosen = disjoint_gaps(counts, content)
            self.assertIs(are_disjoint_gaps(counts, content, chosen), True)
            self.assertIs(are_disjoint_gaps(counts, content, chosen[1:]), True)
            for _ in range(10):
                value = sorted(chance.sample(found, chance.randint(0, len(found))))
                expected = share_no_run(value)
                self.assertIs(are_disjoint_gaps(counts, content, value), expected)
                if len(value) > min_overwrites(counts, content):
                    self.assertIs(expected, False)

    def test_each_gap_changed_in_one_place(self):
        for counts, content in ((COUNTS, CONTENT), (WIDE, WIDE_CONTENT)):
            for gap in gaps(counts, content):
                self.assertIs(are_disjoint_gaps(counts, content, [gap]), True)
                wrong = [list(gap), gap + (0,), gap[:-1], (), (gap,), gap[:3]]
                for at in range(5):
                    changed = [None, Prickly(), [gap[at]], (gap[at],)]
                    if at == 0:
                        changed += ["z", "A", "", "ab"[gap[0] == "a"], gap[0].encode(), 1]
                    else:
                        changed += [gap[at] + 1, gap[at] - 1, float(gap[at]), str(gap[at]), -1, MOST,
                                    True, False]
                    wrong += [gap[:at] + (part,) + gap[at + 1:] for part in changed]
                for value in wrong:
                    self.assertIs(are_disjoint_gaps(counts, content, [value]), False, gap)

    def test_booleans_are_no_integers(self):
        counts = {"a": 3, "b": 3}
        content = [("b", 1, 1), ("a", 1, 3), ("b", 3, 3)]
        self.assertIs(are_disjoint_gaps(counts, content, [("b", 2, 2, 1, 1)]), True)
        self.assertIs(are_disjoint_gaps(counts, content, [("b", 2, 2, True, 1)]), False)
        self.assertIs(are_disjoint_gaps(counts, content, [("b", 2, 2, 1, True)]), False)
        self.assertIs(are_disjoint_gaps({"a": 1, "b": 1}, [("a", 1, 1)], [("b", True, 1, 0, 0)]),
                      False)
        self.assertIs(are_disjoint_gaps({"a": 1, "b": 1}, [("a", 1, 1)], [("b", 1, 1, False, 0)]),
                      False)

    def test_wrong_values(self):
        good = [("a", 2, 2, 1, 1), ("b", 1, 1, 0, 0), ("b", 3, 3, 2, 2)]
        wrong = [tuple(good), dict.fromkeys(good), set(good), iter(good), good[::-1],
                 good + good[-1:], [good[0]] + good, good + [None], [None] + good, [good], good[0],
                 list(good[0]), [good[1], good[0]], [good[0], Prickly()], [Prickly()], "ab", 3]
        self.assertIs(are_disjoint_gaps(COUNTS, CONTENT, good), True)
        for value in wrong + odd_values():
            self.assertIs(are_disjoint_gaps(COUNTS, CONTENT, value), False)

    def test_gaps_that_share_only_a_middle_run(self):
        counts = {"a": 3, "b": 3, "c": 9}
        content = [("a", 1, 1), ("c", 1, 1), ("b", 2, 2), ("c", 2, 9), ("a", 3, 3), ("b", 3, 3)]
        found = gaps(counts, content)
        self.assertEqual(found, [("a", 2, 2, 1, 3), ("b", 1, 1, 0, 1)])
        self.assertIs(are_disjoint_gaps(counts, content, found), False)
        self.assertIs(are_disjoint_gaps(counts, content, found[:1]), True)
        self.assertIs(are_disjoint_gaps(counts, content, found[1:]), True)

    def test_the_empty_list(self):
        self.assertIs(are_disjoint_gaps(COUNTS, CONTENT, []), True)
        self.assertIs(are_disjoint_gaps({"a": 0}, [], []), True)
        for value in odd_values() + [(), {}]:
            self.assertIs(are_disjoint_gaps({"a": 0}, [], value), False)


class BothTest(unittest.TestCase):
    def test_none_if_the_content_cannot_be_final(self):
        cases = [({"a": 1}, []), ({"a": 2}, [("a", 2, 2)]), ({"a": 2}, [("a", 1, 1)]),
                 (COUNTS, [("a", 1, 1), ("a", 3, 3)]), (COUNTS, (("b", 1, 1), ("a", 1, 2)))]
        for counts, content in cases:
            for value in odd_values() + [[], [0], (), [("b", 1, 3, 0, 0)], [("a", 1, 1, 0, 0)]]:
                self.assertIsNone(covers_all_gaps(counts, content, value))
                self.assertIsNone(are_disjoint_gaps(counts, content, value))

    def test_errors(self):
        for function in (covers_all_gaps, are_disjoint_gaps):
            for value in odd_values() + [[]]:
                with self.assertRaises(InvalidLineCounts):
                    function({}, None, value)
                with self.assertRaises(InvalidContent):
                    function({"a": 1}, [("a", True, 1)], value)

    def test_many_runs(self):
        for many in (200, 201, 400):
            counts = {letter: 2 * many for letter in "abcdefghijkl"}
            content = [("abc"[at % 3], 1 if at == 0 else 2 * at, 1 if at == 0 else 2 * at)
                       for at in range(many)]
            content[-1] = (content[-1][0], content[-1][1], 2 * many)
            chosen = overwrite_runs(counts, content)
            self.assertIs(covers_all_gaps(counts, content, chosen), True)
            self.assertIs(covers_all_gaps(counts, content, chosen[1:]), False)
            self.assertIs(covers_all_gaps(counts, content, list(range(many))), True)
            apart = disjoint_gaps(counts, content)
            self.assertIs(are_disjoint_gaps(counts, content, apart), True)
            self.assertIs(are_disjoint_gaps(counts, content, gaps(counts, content)), False)

    def test_long_values(self):
        for value in (list(range(100000)), [0] * 100000, [("a", 2, 2, 1, 1)] * 100000):
            self.assertIs(covers_all_gaps(COUNTS, CONTENT, value), False)
            self.assertIs(are_disjoint_gaps(COUNTS, CONTENT, value), False)


if __name__ == "__main__":
    unittest.main()
