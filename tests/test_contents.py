"""Points 6 to 12: line counts, lines, contents and line sets."""

import random
import unittest

from lastcopy.contents import (
    append_line, count_lines, index_of, is_content, is_line, is_line_counts, is_line_set,
    is_prefix, line_at, reverse_content, split_at,
)
from lastcopy.errors import InvalidInteger
from tests.support import all_contents, compress, expand, odd_values, random_content

MOST = 10 ** 30
TWELVE = {letter: 1 for letter in "abcdefghijkl"}


class LineCountsTest(unittest.TestCase):
    """[6]"""

    def test_examples(self):
        self.assertIs(is_line_counts({"a": 2, "b": 0}), True)
        self.assertIs(is_line({"a": 2}, ("a", 3)), False)

    def test_line_counts(self):
        good = [
            {"a": 0}, {"a": 1}, {"a": MOST}, {"z": 0}, {"abcdefgh": 3}, {"zzzzzzzz": 0},
            {"a": 0, "aa": 0, "aaa": 0}, TWELVE, {letter: MOST for letter in TWELVE},
        ]
        for number, value in enumerate(good):
            with self.subTest(number):
                self.assertIs(is_line_counts(value), True)

    def test_not_line_counts(self):
        bad = [
            {}, [], (), [("a", 1)], {"a": -1}, {"a": MOST + 1}, {"a": True}, {"a": False},
            {"a": 1.0}, {"a": "1"}, {"a": None}, {"a": [1]}, {"": 1}, {"abcdefghi": 1},
            {"A": 1}, {"aB": 1}, {"a1": 1}, {"a ": 1}, {" a": 1}, {"a\n": 1}, {"a_b": 1},
            {"\u00e4": 1}, {"\u03b1": 1}, {"\u00aa": 1}, {"\ud800": 1}, {"`": 1}, {"{": 1},
            {1: 1}, {None: 1}, {True: 1}, {b"a": 1}, {("a",): 1}, {"a": 1, "B": 1},
            {"a": 1, "b": -1}, {"a": 1, 2: 1}, dict(TWELVE, m=1), dict(TWELVE, m=0),
        ]
        for number, value in enumerate(bad + odd_values()):
            with self.subTest(number):
                self.assertIs(is_line_counts(value), False)

    def test_lines(self):
        counts = {"a": 3, "b": 0, "abcdefgh": MOST}
        for value in [("a", 1), ("a", 2), ("a", 3), ("abcdefgh", 1), ("abcdefgh", MOST)]:
            self.assertIs(is_line(counts, value), True)

    def test_not_lines(self):
        counts = {"a": 3, "b": 0, "abcdefgh": MOST}
        bad = [
            ("a", 0), ("a", -1), ("a", 4), ("b", 0), ("b", 1), ("abcdefgh", MOST + 1), ("c", 1),
            ("a", True), ("a", 1.0), ("a", "1"), ("a", None), ("a", [1]), (["a"], 1), (1, "a"),
            ({"a"}, 1), ("A", 1), ("", 1), ("a",), ("a", 1, 1), ["a", 1], (), [], "a1", {"a": 1},
            (b"a", 1), (("a", 1), 1), (None, 1),
        ]
        for number, value in enumerate(bad + odd_values()):
            with self.subTest(number):
                self.assertIs(is_line(counts, value), False)


class ContentTest(unittest.TestCase):
    """[7]"""

    def test_examples(self):
        self.assertIs(is_content({"a": 3}, [("a", 1, 1), ("a", 2, 3)]), False)
        self.assertIs(is_content({"a": 3}, (("a", 2, 3), ("a", 1, 1))), True)

    def test_contents(self):
        counts = {"a": 3, "b": 2, "z": MOST, "n": 0}
        good = [
            [], (), [("a", 1, 1)], [("a", 1, 3)], [("a", 3, 3)], [("z", 1, MOST)],
            [("z", MOST, MOST)], [("a", 1, 1), ("a", 1, 1)], [("a", 1, 3), ("a", 1, 3)],
            [("a", 1, 1), ("a", 3, 3)], [("a", 2, 2), ("a", 1, 1)], [("a", 1, 2), ("a", 2, 3)],
            [("a", 1, 1), ("b", 2, 2)], [("a", 1, 1), ("b", 1, 1), ("a", 2, 2)],
            (("a", 1, 1), ("b", 1, 2)), [("b", 2, 2), ("b", 2, 2)], [("a", 3, 3), ("b", 1, 2)],
        ]
        for number, value in enumerate(good):
            with self.subTest(number):
                self.assertIs(is_content(counts, value), True)

    def test_not_contents(self):
        counts = {"a": 3, "b": 2, "z": MOST, "n": 0}
        bad = [
            [("a", 1, 1), ("a", 2, 2)], [("a", 1, 2), ("a", 3, 3)], (("b", 1, 1), ("b", 2, 2)),
            [("a", 1, 1), ("b", 1, 1), ("b", 2, 2)], [("z", 1, MOST - 1), ("z", MOST, MOST)],
            [("a", 2, 1)], [("a", 0, 1)], [("a", 0, 0)], [("a", -1, 1)], [("a", 1, 4)],
            [("a", 4, 4)], [("b", 1, 3)], [("c", 1, 1)], [("n", 1, 1)], [("z", 1, MOST + 1)],
            [("A", 1, 1)], [("", 1, 1)], [("a", 1)], [("a",)], [()], [("a", 1, 1, 1)],
            [["a", 1, 1]], [("a", True, 1)], [("a", 1, True)], [("a", 1.0, 1)], [("a", 1, 2.0)],
            [("a", "1", "1")], [("a", None, 1)], [("a", 1, None)], [(["a"], 1, 1)],
            [({}, 1, 1)], [("a", [1], 1)], [("a", 1, [1])], ["a"], "a", {("a", 1, 1): True},
            {("a", 1, 1)}, ("a", 1, 1), [("a", 1, 1), None], [[("a", 1, 1)]], {},
            iter([("a", 1, 1)]), [(b"a", 1, 1)], [("a", 1, 1), ["a", 3, 3]],
        ]
        for number, value in enumerate(bad + odd_values()):
            with self.subTest(number):
                self.assertIs(is_content(counts, value), False)

    def test_more_than_200_runs(self):
        counts = {"a": 1, "b": 1}
        for many in (200, 201, 1000):
            value = [("ab"[at % 2], 1, 1) for at in range(many)]
            self.assertIs(is_content(counts, value), True)
            self.assertEqual(count_lines(value), many)
            self.assertEqual(index_of(value, ("b", 1)), 1)

    def test_all_small_values(self):
        counts = {"a": 2, "b": 1}
        parts = [(writer, first, last) for writer in "abc"
                 for first in range(4) for last in range(4)]
        for one in parts:
            for other in parts:
                good = all(1 <= first <= last <= counts.get(writer, 0)
                           for writer, first, last in (one, other))
                joined = one[0] == other[0] and one[2] + 1 == other[1]
                self.assertIs(is_content(counts, [one, other]), good and not joined)


class PositionTest(unittest.TestCase):
    """[8]"""

    def test_examples(self):
        self.assertEqual(count_lines([("a", 1, 3), ("b", 2, 2)]), 4)
        self.assertEqual(line_at([("a", 1, 3), ("b", 2, 2)], 3), ("b", 2))
        self.assertEqual(index_of([("b", 2, 2), ("a", 1, 3)], ("a", 3)), 3)

    def test_empty_page(self):
        self.assertEqual(count_lines([]), 0)
        self.assertEqual(count_lines(()), 0)
        self.assertIsNone(index_of([], ("a", 1)))
        with self.assertRaises(InvalidInteger):
            line_at([], 0)

    def test_large(self):
        content = [("a", 1, MOST), ("b", 5, MOST), ("a", 3, MOST), ("zzzzzzzz", MOST, MOST)]
        total = 3 * MOST - 5
        self.assertEqual(count_lines(content), total)
        self.assertEqual(line_at(content, 0), ("a", 1))
        self.assertEqual(line_at(content, MOST - 1), ("a", MOST))
        self.assertEqual(line_at(content, MOST), ("b", 5))
        self.assertEqual(line_at(content, 2 * MOST - 5), ("b", MOST))
        self.assertEqual(line_at(content, 2 * MOST - 4), ("a", 3))
        self.assertEqual(line_at(content, total - 1), ("zzzzzzzz", MOST))
        for index in (-1, total, total + 1, 10 ** 40, -10 ** 40):
            with self.assertRaises(InvalidInteger):
                line_at(content, index)
        self.assertEqual(index_of(content, ("a", MOST)), MOST - 1)
        self.assertEqual(index_of(content, ("b", MOST)), 2 * MOST - 5)
        self.assertEqual(index_of(content, ("b", 5)), MOST)
        self.assertIsNone(index_of(content, ("b", 4)))
        self.assertEqual(index_of(content, ("zzzzzzzz", MOST)), total - 1)
        self.assertIsNone(index_of(content, ("zzzzzzzz", MOST - 1)))
        self.assertIsNone(index_of(content, ("c", 1)))

    def test_index_of_is_the_first_one(self):
        content = [("a", 2, 3), ("b", 1, 1), ("a", 1, 3)]
        self.assertEqual(index_of(content, ("a", 3)), 1)
        self.assertEqual(index_of(content, ("a", 1)), 3)

    def test_more_than_twelve_writers(self):
        content = [(letter, 1, 2) for letter in "abcdefghijklmnopqrstuvwxyz"]
        self.assertEqual(count_lines(content), 52)
        self.assertEqual(line_at(content, 51), ("z", 2))
        self.assertEqual(index_of(content, ("y", 1)), 48)


class PartTest(unittest.TestCase):
    """[9]"""

    def test_examples(self):
        self.assertIs(is_prefix([("a", 1, 2)], [("a", 1, 3), ("b", 1, 1)]), True)
        self.assertEqual(append_line([("a", 1, 2)], ("a", 3)), [("a", 1, 3)])
        self.assertEqual(split_at([("a", 1, 3)], 2), ([("a", 1, 2)], [("a", 3, 3)]))

    def test_prefixes(self):
        yes = [
            ([], []), ([], [("a", 2, 2)]), ((), ()), ([("a", 1, 1)], [("a", 1, 1)]),
            ([("a", 1, MOST - 1)], [("a", 1, MOST)]), ([("a", 1, 1)], (("a", 1, 1), ("b", 1, 1))),
            ([("a", 1, 3), ("b", 1, 1)], [("a", 1, 3), ("b", 1, 2)]),
        ]
        no = [
            ([("a", 1, 1)], []), ([("a", 1, 2)], [("a", 1, 1)]), ([("a", 2, 2)], [("a", 1, 2)]),
            ([("a", 1, 1)], [("b", 1, 1)]), ([("a", 1, 1), ("b", 1, 1)], [("a", 1, 2)]),
            ([("a", 1, 1), ("b", 1, 1)], [("a", 1, 1)]), ([("a", 2, 3)], [("a", 1, 3)]),
            ([("a", 1, 2), ("b", 1, 1)], [("a", 1, 3), ("b", 1, 1)]),
            ([("a", 1, 2), ("b", 1, 1)], [("b", 1, 2), ("b", 1, 1)]),
            ([("a", 1, 2), ("b", 1, 1)], [("a", 1, 2), ("b", 2, 2)]),
        ]
        for content, other in yes:
            self.assertIs(is_prefix(content, other), True)
        for content, other in no:
            self.assertIs(is_prefix(content, other), False)

    def test_append(self):
        self.assertEqual(append_line([], ("abcdefgh", MOST)), [("abcdefgh", MOST, MOST)])
        self.assertEqual(append_line((), ("a", 1)), [("a", 1, 1)])
        self.assertEqual(append_line([("a", 1, MOST - 1)], ("a", MOST)), [("a", 1, MOST)])
        self.assertEqual(append_line([("a", 1, 2)], ("a", 2)), [("a", 1, 2), ("a", 2, 2)])
        self.assertEqual(append_line([("a", 1, 2)], ("a", 4)), [("a", 1, 2), ("a", 4, 4)])
        self.assertEqual(append_line([("a", 1, 2)], ("b", 3)), [("a", 1, 2), ("b", 3, 3)])
        self.assertEqual(append_line([("a", 2, 2), ("b", 1, 1)], ("a", 3)),
                         [("a", 2, 2), ("b", 1, 1), ("a", 3, 3)])

    def test_split(self):
        content = [("a", 1, MOST), ("b", 1, 1)]
        self.assertEqual(split_at(content, 0), ([], content))
        self.assertEqual(split_at(content, MOST), ([("a", 1, MOST)], [("b", 1, 1)]))
        self.assertEqual(split_at(tuple(content), MOST + 1), (content, []))
        self.assertEqual(split_at(content, MOST - 1),
                         ([("a", 1, MOST - 1)], [("a", MOST, MOST), ("b", 1, 1)]))
        self.assertEqual(split_at([], 0), ([], []))
        for count in (-1, MOST + 2, 10 ** 40, -10 ** 40):
            with self.assertRaises(InvalidInteger):
                split_at(content, count)
        with self.assertRaises(InvalidInteger):
            split_at([], 1)


class LineSetTest(unittest.TestCase):
    """[10]"""

    def test_example(self):
        self.assertIs(is_line_set({"a": 3}, {"a": [(1, 1), (2, 3)]}), False)

    def test_line_sets(self):
        counts = {"a": 5, "b": 0, "z": MOST}
        good = [
            {}, {"a": []}, {"b": []}, {"a": [], "b": [], "z": []}, {"a": [(1, 5)]},
            {"a": [(1, 1), (3, 3), (5, 5)]}, {"a": [(1, 2), (4, 5)]}, {"z": [(1, MOST)]},
            {"z": [(1, 1), (MOST, MOST)], "a": [(5, 5)]},
        ]
        for number, value in enumerate(good):
            with self.subTest(number):
                self.assertIs(is_line_set(counts, value), True)

    def test_not_line_sets(self):
        counts = {"a": 5, "b": 0, "z": MOST}
        bad = [
            {"a": [(1, 2), (3, 3)]}, {"a": [(3, 3), (1, 1)]}, {"a": [(1, 1), (1, 1)]},
            {"a": [(1, 3), (2, 5)]}, {"a": [(2, 1)]}, {"a": [(0, 1)]}, {"a": [(-1, 1)]},
            {"a": [(1, 6)]}, {"a": [(6, 6)]}, {"b": [(1, 1)]}, {"c": []}, {"c": [(1, 1)]},
            {"A": []}, {1: []}, {None: []}, {("a",): []}, {"a": ()}, {"a": ((1, 1),)},
            {"a": [[1, 1]]}, {"a": [(1,)]}, {"a": [(1, 1, 1)]}, {"a": [()]}, {"a": [1]},
            {"a": (1, 1)}, {"a": None}, {"a": {}}, {"a": {(1, 1)}}, {"a": "11"},
            {"a": [(True, 1)]}, {"a": [(1, True)]}, {"a": [(1.0, 1)]}, {"a": [(1, 1.0)]},
            {"a": [("1", "1")]}, {"a": [(None, None)]}, {"a": [([1], 1)]}, {"a": [("a", 1, 1)]},
            {"a": [(1, 1)], "c": []}, {"a": [(1, 1)], "z": [(2, MOST + 1)]}, [], (),
            [("a", [(1, 1)])], {"a"}, "a", {"a": [(1, 1), None]}, {"a": {1: 1}},
            {"a": [(1, 1), (4, 4), (3, 3)]}, {"a": 5},
        ]
        for number, value in enumerate(bad + odd_values()):
            with self.subTest(number):
                self.assertIs(is_line_set(counts, value), False)

    def test_more_than_40_intervals(self):
        for many in (40, 41, 500):
            intervals = [(2 * at + 1, 2 * at + 1) for at in range(many)]
            self.assertIs(is_line_set({"a": 2 * many - 1}, {"a": intervals}), True)
            self.assertIs(is_line_set({"a": 2 * many - 2}, {"a": intervals}), False)

    def test_all_small_intervals(self):
        numbers = range(6)
        for first in numbers:
            for last in numbers:
                for start in numbers:
                    for stop in numbers:
                        good = 1 <= first <= last and last + 1 < start <= stop <= 4
                        value = {"a": [(first, last), (start, stop)]}
                        self.assertIs(is_line_set({"a": 4}, value), good)


class ReversalTest(unittest.TestCase):
    """[11]"""

    def test_example(self):
        self.assertEqual(reverse_content({"a": 3, "b": 1}, [("a", 1, 2), ("b", 1, 1)]),
                         [("b", 1, 1), ("a", 2, 3)])

    def test_edges(self):
        self.assertEqual(reverse_content({"a": 0}, []), [])
        self.assertEqual(reverse_content({"a": 0}, ()), [])
        self.assertEqual(reverse_content({"a": MOST}, (("a", 1, 1),)), [("a", MOST, MOST)])
        self.assertEqual(reverse_content({"a": MOST}, [("a", 2, MOST)]), [("a", 1, MOST - 1)])

    def test_twice(self):
        chance = random.Random(11)
        counts = {"a": 4, "b": 2, "c": MOST}
        for _ in range(300):
            content = random_content(chance, {"a": 4, "b": 2, "c": 3}, 8)
            once = reverse_content(counts, content)
            self.assertIs(is_content(counts, once), True)
            self.assertEqual(reverse_content(counts, once), content)


class ExpandedTest(unittest.TestCase):
    """[12]: every result against the content line by line."""

    def check_content(self, counts, content):
        lines = expand(content)
        self.assertIs(is_content(counts, content), True)
        self.assertEqual(count_lines(content), len(lines))
        for index, line in enumerate(lines):
            self.assertEqual(line_at(content, index), line)
        for writer in sorted(counts) + ["other"]:
            for number in range(1, counts.get(writer, 2) + 1):
                line = (writer, number)
                index = lines.index(line) if line in lines else None
                self.assertEqual(index_of(content, line), index)
                self.assertEqual(append_line(content, line), compress(lines + [line]))
        for count in range(len(lines) + 1):
            parts = (compress(lines[:count]), compress(lines[count:]))
            self.assertEqual(split_at(content, count), parts)
            self.assertIs(is_prefix(parts[0], content), True)
        back = [(writer, counts[writer] + 1 - number) for writer, number in reversed(lines)]
        self.assertEqual(reverse_content(counts, content), compress(back))

    def test_random_contents(self):
        chance = random.Random(12)
        counts = {"a": 4, "b": 3, "longname": 2}
        for _ in range(300):
            self.check_content(counts, random_content(chance, counts, 8))

    def test_small_contents(self):
        counts = {"a": 2, "b": 1}
        for lines in all_contents(counts, 4):
            self.check_content(counts, compress(lines))

    def test_all_pairs_for_prefixes(self):
        contents = all_contents({"a": 2, "b": 1}, 4)
        for one in contents:
            for other in contents:
                expected = other[:len(one)] == one
                self.assertIs(is_prefix(compress(one), compress(other)), expected)


if __name__ == "__main__":
    unittest.main()
