"""Points 32 to 38: line sets that can survive."""

import random
import unittest

from lastcopy.check_final import is_schedule_to_final
from lastcopy.contents import is_content, is_line_set
from lastcopy.errors import InvalidContent, InvalidLineCounts, InvalidLineSet
from lastcopy.final import can_be_final, schedule_to_final
from lastcopy.survivors import (
    can_survive, content_for, gap_counts, lines_in_content, lost_lines, survival_obstruction,
)
from tests.support import (
    all_line_sets, expand, line_set_of, model_gap_counts, model_survival_obstructions, odd_values,
    random_content, random_final, search_contents,
)

MOST = 10 ** 30
TAKE_LINE_SET = [lost_lines, gap_counts, can_survive, survival_obstruction, content_for]
SMALL_COUNTS = [
    {"a": 0}, {"a": 1}, {"a": 4}, {"b": 0, "a": 0}, {"a": 0, "b": 3}, {"a": 1, "b": 1},
    {"b": 2, "a": 1}, {"a": 2, "b": 2}, {"a": 3, "b": 1}, {"a": 3, "b": 2}, {"a": 4, "b": 1},
    {"a": 5, "b": 1}, {"c": 1, "a": 1, "b": 1}, {"a": 2, "b": 1, "c": 1}, {"a": 2, "b": 2, "c": 1},
    {"a": 1, "b": 1, "c": 1, "d": 1}, {"a": 3, "b": 1, "c": 1},
]


def lines_of_set(line_set):
    return [(writer, number) for writer in sorted(line_set) for first, last in line_set[writer]
            for number in range(first, last + 1)]


def total_of_set(line_set):
    return sum(last - first + 1 for listed in line_set.values() for first, last in listed)


def random_line_set(chance, counts, most):
    """A line set with intervals that often begin and end where the writer's lines do."""
    found = {}
    for writer, count in counts.items():
        marks = sorted(chance.sample(range(1, count + 2), min(count + 1, 2 * chance.randint(0, most)))
                       if count < 1000 else
                       {chance.randint(1, count) for _ in range(2 * chance.randint(0, most))})
        if marks and chance.random() < 0.5:
            marks[0] = 1
        pairs = list(zip(marks[::2], marks[1::2]))
        intervals = [(first, last - 1) for first, last in pairs]
        if intervals and chance.random() < 0.5:
            intervals[-1] = (intervals[-1][0], count)
        if intervals or chance.random() < 0.3:
            found[writer] = intervals
    return found


class SurvivorTest(unittest.TestCase):
    def check_content(self, counts, line_set):
        content = content_for(counts, line_set)
        self.assertIs(type(content), list)
        self.assertIs(is_content(counts, content), True)
        self.assertIs(can_be_final(counts, content), True)
        schedule = schedule_to_final(counts, content)
        self.assertIs(is_schedule_to_final(counts, schedule, content), True)
        expected = {writer: listed for writer, listed in line_set.items() if listed}
        self.assertEqual(lines_in_content(content), expected)
        total = sum(last - first + 1 for _, first, last in content)
        self.assertEqual(total, total_of_set(line_set))
        return content


class LostTest(SurvivorTest):
    """[32]"""

    def test_examples(self):
        self.assertEqual(sorted(lost_lines({"a": 3, "b": 1}, {"a": [(2, 2)]}).items()),
                         [("a", [(1, 1), (3, 3)]), ("b", [(1, 1)])])
        found = gap_counts({"b": 1, "a": 3}, {"a": [(2, 2)]})
        self.assertEqual(found, {"a": 2, "b": 1})
        self.assertEqual(list(found), ["a", "b"])

    def test_cases(self):
        cases = [
            ({"a": 0}, {}, {}, {"a": 0}),
            ({"a": 0, "b": 0}, {"b": []}, {}, {"a": 0, "b": 0}),
            ({"a": 1}, {}, {"a": [(1, 1)]}, {"a": 1}),
            ({"a": 1}, {"a": [(1, 1)]}, {}, {"a": 0}),
            ({"a": MOST}, {"a": [(1, MOST)]}, {}, {"a": 0}),
            ({"a": MOST}, {}, {"a": [(1, MOST)]}, {"a": 1}),
            ({"a": MOST}, {"a": []}, {"a": [(1, MOST)]}, {"a": 1}),
            ({"a": MOST}, {"a": [(2, MOST - 1)]}, {"a": [(1, 1), (MOST, MOST)]}, {"a": 2}),
            ({"b": 5, "a": 0, "c": 2}, {"b": [(1, 1), (3, 3), (5, 5)]},
             {"b": [(2, 2), (4, 4)], "c": [(1, 2)]}, {"a": 0, "b": 2, "c": 1}),
            ({"b": 5, "a": 7}, {"a": [(3, 4), (6, 6)], "b": []},
             {"a": [(1, 2), (5, 5), (7, 7)], "b": [(1, 5)]}, {"a": 3, "b": 1}),
        ]
        for counts, line_set, lost, numbers in cases:
            self.assertEqual(lost_lines(counts, line_set), lost)
            found = gap_counts(counts, line_set)
            self.assertEqual(found, numbers)
            self.assertEqual(list(found), sorted(counts))

    def test_random_sets(self):
        chance = random.Random(32)
        for _ in range(400):
            counts = {name: chance.randint(0, 9) for name in chance.sample("abcdef", 4)}
            line_set = random_line_set(chance, counts, 3)
            self.assertIs(is_line_set(counts, line_set), True)
            lines = lines_of_set(line_set)
            every = [(writer, number) for writer in counts
                     for number in range(1, counts[writer] + 1)]
            lost = lost_lines(counts, line_set)
            self.assertEqual(lost, line_set_of([line for line in every if line not in lines]))
            self.assertEqual(gap_counts(counts, line_set), model_gap_counts(counts, lines))
            self.assertEqual(lost_lines(counts, lost), line_set_of(lines))

    def test_41_intervals_and_more(self):
        for many in (40, 41, 300):
            counts = {"a": 2 * many, "b": MOST}
            line_set = {"a": [(2 * at, 2 * at) for at in range(1, many + 1)]}
            self.assertEqual(gap_counts(counts, line_set), {"a": many, "b": 1})
            self.assertEqual(lost_lines(counts, line_set),
                             {"a": [(2 * at - 1, 2 * at - 1) for at in range(1, many + 1)],
                              "b": [(1, MOST)]})


class SurviveTest(SurvivorTest):
    """[33], [34]"""

    def test_examples(self):
        self.assertIs(can_survive({"a": 2, "b": 2}, {"a": [(1, 1)], "b": [(2, 2)]}), True)
        with self.assertRaises(InvalidLineSet):
            can_survive({"a": 1}, {"b": [(1, 1)]})
        counts = {"a": 3, "b": 1}
        self.assertEqual(survival_obstruction(counts, {"a": [(1, 1), (3, 3)]}), ("gaps", "a", 1, 0))
        self.assertEqual(survival_obstruction(counts, {"a": [(2, 2)], "b": [(1, 1)]}),
                         ("single end", ("b", 1)))
        self.assertEqual(survival_obstruction({"a": 1}, {}), ("no first",))

    def test_cases(self):
        four = {"a": 4, "b": 4}
        cases = [
            ({"a": 0}, {}, None),
            ({"a": 0, "b": 0}, {"a": []}, None),
            ({"a": 0, "b": 1}, {}, ("no first",)),
            ({"a": 1}, {"a": [(1, 1)]}, None),
            ({"a": 1, "b": MOST}, {"a": [(1, 1)]}, None),
            ({"a": 1, "b": MOST}, {"a": [(1, 1)], "b": []}, None),
            ({"a": 1, "b": 3}, {"a": [(1, 1)], "b": [(2, 2)]}, ("single end", ("a", 1))),
            ({"a": 1, "b": 3}, {"a": [(1, 1)], "b": [(1, 1)]}, None),
            ({"a": 1, "b": 3}, {"a": [(1, 1)], "b": [(3, 3)]}, None),
            ({"a": 1, "b": 1, "c": 3}, {"a": [(1, 1)], "b": [(1, 1)], "c": [(2, 2)]}, None),
            ({"a": 3, "b": 1, "c": 3}, {"a": [(2, 2)], "b": [(1, 1)], "c": [(2, 2)]},
             ("single end", ("b", 1))),
            ({"a": MOST}, {"a": [(1, MOST)]}, None),
            ({"a": MOST}, {"a": [(1, MOST - 1)]}, ("no last",)),
            ({"a": MOST}, {"a": [(2, MOST)]}, ("no first",)),
            ({"a": MOST}, {"a": [(1, 1), (3, MOST)]}, ("gaps", "a", 1, 0)),
            (four, {"a": [(1, 4)]}, None),
            (four, {"a": [(2, 4)], "b": [(2, 4)]}, ("no first",)),
            (four, {"a": [(1, 3)], "b": [(1, 3)]}, ("no last",)),
            (four, {"a": [(2, 3)], "b": [(2, 3)]}, ("no first",)),
            (four, {"b": [(1, 1), (3, 3)], "a": [(4, 4)]}, ("gaps", "b", 2, 1)),
            (four, {"b": [(1, 1)], "a": [(2, 2), (4, 4)]}, ("gaps", "a", 2, 1)),
            (four, {"b": [(1, 1), (3, 3)], "a": [(3, 4)]}, None),
            (four, {"b": [(1, 1), (3, 3)]}, ("no last",)),
            ({"a": 9, "b": 2}, {"a": [(2, 2), (4, 4), (6, 6)], "b": [(1, 2)]},
             ("gaps", "a", 4, 2)),
            ({"a": 9, "b": 3}, {"a": [(2, 2), (4, 4), (6, 6)], "b": [(1, 3)]},
             ("gaps", "a", 4, 3)),
            ({"a": 9, "b": 3}, {"a": [(2, 2), (4, 4), (6, 9)], "b": [(1, 3)]}, None),
            ({"a": 9, "b": 4}, {"a": [(2, 2), (4, 4), (6, 6)], "b": [(1, 4)]}, None),
            ({"a": 9, "b": MOST}, {"a": [(2, 2), (4, 4), (6, 6)], "b": [(1, MOST)]}, None),
        ]
        for counts, line_set, expected in cases:
            self.assertEqual(survival_obstruction(counts, line_set), expected)
            self.assertIs(can_survive(counts, line_set), expected is None)
            if expected is None:
                self.check_content(counts, line_set)
            else:
                self.assertIsNone(content_for(counts, line_set))

    def test_writers_are_tried_in_ascending_order(self):
        for counts in ({"b": 2, "a": 2, "c": 1}, {"c": 1, "a": 2, "b": 2}):
            self.assertEqual(survival_obstruction(counts, {}), ("no first",))
        counts = {"c": 3, "b": 3, "a": 3}
        self.assertEqual(survival_obstruction(counts, {"c": [(1, 1), (3, 3)]}), ("gaps", "c", 1, 0))
        self.assertEqual(survival_obstruction(counts, {"b": [(1, 1), (3, 3)]}), ("gaps", "b", 1, 0))

    def test_all_sets_of_small_counts(self):
        for counts in SMALL_COUNTS:
            _, finals = search_contents(counts)
            survivors = {tuple(sorted(lines)) for lines in finals}
            for lines in all_line_sets(counts):
                line_set = line_set_of(lines)
                expected = lines in survivors
                self.assertIs(can_survive(counts, line_set), expected, (counts, lines))
                found = model_survival_obstructions(counts, lines)
                self.assertIs(found == [], expected)
                self.assertEqual(survival_obstruction(counts, line_set), found[0] if found else None)

    def test_larger_sets(self):
        chance = random.Random(34)
        seen = set()
        for _ in range(1500):
            counts = {name: chance.randint(0, 9) for name in chance.sample("abcdef", 3)}
            line_set = random_line_set(chance, counts, 4)
            found = model_survival_obstructions(counts, lines_of_set(line_set))
            expected = found[0] if found else None
            self.assertEqual(survival_obstruction(counts, line_set), expected)
            self.assertIs(can_survive(counts, line_set), expected is None)
            seen.add(expected[0] if expected else None)
        self.assertEqual(seen, {None, "no first", "no last", "single end", "gaps"})

    def test_sets_that_fail_at_one_place(self):
        counts = {"a": 6, "b": 6}
        good = [("a", 1), ("a", 3), ("a", 5), ("b", 2), ("b", 4), ("b", 6)]
        self.assertIs(can_survive(counts, line_set_of(good)), True)
        for at, expected in ((0, ("no first",)), (5, ("no last",))):
            less = good[:at] + good[at + 1:]
            self.assertEqual(survival_obstruction(counts, line_set_of(less)), expected)
        less = [good[0], good[1], good[2], good[5]]
        self.assertEqual(survival_obstruction(counts, line_set_of(less)), ("gaps", "a", 3, 1))
        less = [good[0], good[3], good[4], good[5]]
        self.assertEqual(survival_obstruction(counts, line_set_of(less)), ("gaps", "b", 3, 1))


class ContentTest(SurvivorTest):
    """[35]"""

    def test_examples(self):
        self.assertEqual(content_for({"a": 2, "b": 2}, {"a": [(1, 1)], "b": [(2, 2)]}),
                         [("a", 1, 1), ("b", 2, 2)])
        self.assertIsNone(content_for({"a": 2}, {"a": [(1, 1)]}))
        self.assertEqual(content_for({"a": 0}, {}), [])

    def test_all_sets_of_small_counts(self):
        for counts in SMALL_COUNTS:
            _, finals = search_contents(counts)
            by_set = {}
            for lines in finals:
                by_set.setdefault(tuple(sorted(lines)), []).append(lines)
            for lines in all_line_sets(counts):
                content = content_for(counts, line_set_of(lines))
                if lines in by_set:
                    self.assertIn(tuple(expand(content)), by_set[lines])
                else:
                    self.assertIsNone(content)

    def test_larger_counts(self):
        for counts in ({"a": 5, "b": 4}, {"a": 7, "b": 2}, {"a": 3, "b": 3, "c": 2},
                       {"a": 2, "b": 2, "c": 2, "d": 2}, {"a": 4, "b": 1, "c": 3}):
            for lines in all_line_sets(counts):
                line_set = line_set_of(lines)
                if model_survival_obstructions(counts, lines):
                    self.assertIsNone(content_for(counts, line_set))
                else:
                    self.check_content(counts, line_set)

    def test_random_sets(self):
        chance = random.Random(35)
        many = 0
        for _ in range(2000):
            names = chance.sample("abcdefghijkl", chance.randint(1, 6))
            counts = {name: chance.choice([1, 9, 60, MOST, chance.randint(1, MOST)])
                      for name in names}
            line_set = random_line_set(chance, counts, chance.choice([1, 3, 6]))
            if can_survive(counts, line_set):
                many += 1
                self.check_content(counts, line_set)
        self.assertGreater(many, 300)

    def test_hardly_enough_lines_of_others(self):
        chance = random.Random(36)
        for _ in range(300):
            many = chance.randint(1, 12)
            single = [(2 * at, 2 * at) for at in range(1, many + 1)]
            starts = chance.choice([True, False])
            if starts:
                single[0] = (1, 2)
            counts = {"m": 2 * many + chance.choice([0, 1])}
            need = many + 1 - starts - (counts["m"] == 2 * many)
            line_set = {"m": single}
            left = need
            for name in ("a", "z", "q"):
                share = left if name == "q" else chance.randint(0, left)
                left -= share
                counts[name] = share + chance.choice([0, 5])
                if share:
                    ends = chance.choice([True, False])
                    first = counts[name] - share + 1 if ends else 1
                    line_set[name] = [(first, first + share - 1)]
            if not model_survival_obstructions(counts, lines_of_set(line_set)):
                self.check_content(counts, line_set)
            elif need > 0:
                shorter = {name: listed for name, listed in line_set.items() if name == "m"}
                self.assertIsNone(content_for(counts, shorter))

    def test_twelve_writers_and_large_counts(self):
        counts = {letter * 8: MOST for letter in "abcdefghijkl"}
        every = {writer: [(1, MOST)] for writer in counts}
        self.check_content(counts, every)
        odd = {writer: [(3, MOST // 3), (MOST // 2, MOST // 2), (MOST - 5, MOST - 4)]
               for writer in counts}
        self.assertIsNone(content_for(counts, odd))
        odd["cccccccc"] = [(1, 1), (3, MOST - 1)]
        odd["dddddddd"] = [(2, 2), (MOST, MOST)]
        self.check_content(counts, odd)

    def test_41_intervals_and_more(self):
        for many in (40, 41, 300):
            counts = {"a": 2 * many, "b": MOST, "c": 2 * many + 1}
            listed = [(2 * at, 2 * at) for at in range(1, many + 1)]
            self.check_content(counts, {"a": listed, "b": [(1, MOST)]})
            self.check_content(counts, {"a": listed, "b": [(1, many)]})
            self.assertIsNone(content_for(counts, {"a": listed, "b": [(1, many - 1)]}))
            self.check_content(counts, {"a": listed, "b": [(1, 2)], "c": listed})
            self.assertIsNone(content_for(counts, {"a": listed, "c": listed}))

    def test_no_line_by_line(self):
        # The content may not be made of single lines, whatever their number.
        counts = {"a": MOST, "b": MOST}
        line_set = {"a": [(1, MOST // 2), (MOST // 2 + 2, MOST)], "b": [(2, MOST - 1)]}
        self.assertLess(len(self.check_content(counts, line_set)), 20)


class ContentLinesTest(SurvivorTest):
    """[36]"""

    def test_example(self):
        found = lines_in_content([("a", 2, 3), ("b", 1, 1), ("a", 1, 1)])
        self.assertEqual(sorted(found.items()), [("a", [(1, 3)]), ("b", [(1, 1)])])

    def test_cases(self):
        cases = [
            ([], {}), ((), {}), ([("a", 5, 9)], {"a": [(5, 9)]}),
            ([("a", 5, 9), ("a", 5, 9)], {"a": [(5, 9)]}),
            ([("a", 5, 9), ("a", 7, 7)], {"a": [(5, 9)]}),
            ([("a", 5, 9), ("a", 1, 5)], {"a": [(1, 9)]}),
            ([("a", 5, 9), ("a", 1, 4)], {"a": [(1, 9)]}),
            ([("a", 5, 9), ("a", 1, 3)], {"a": [(1, 3), (5, 9)]}),
            ([("a", 5, 9), ("a", 1, 3), ("b", 1, 1), ("a", 4, 4)], {"a": [(1, 9)], "b": [(1, 1)]}),
            ([("a", 1, 9), ("a", 3, 4), ("a", 6, 6), ("a", 9, 11)], {"a": [(1, 11)]}),
            ([("a", 1, MOST), ("b", MOST, MOST)], {"a": [(1, MOST)], "b": [(MOST, MOST)]}),
        ]
        for content, expected in cases:
            self.assertEqual(lines_in_content(content), expected)
            self.assertEqual(lines_in_content(tuple(content)), expected)

    def test_more_than_twelve_writers(self):
        letters = "abcdefghijklmnopqrstuvwxyz"
        content = [(letter, 2, 3) for letter in letters]
        self.assertEqual(lines_in_content(content), {letter: [(2, 3)] for letter in letters})

    def test_random_contents(self):
        chance = random.Random(36)
        for _ in range(400):
            counts = {"b": 9, "a": 6, "c": 3}
            content = random_content(chance, counts, 6)
            self.assertEqual(lines_in_content(content), line_set_of(expand(content)))

    def test_201_runs_and_more(self):
        for many in (200, 201, 1000):
            content = [("ab"[at % 2], at + 1, at + 1) for at in range(many)]
            found = lines_in_content(content)
            self.assertEqual(found, line_set_of(expand(content)))

    def test_errors(self):
        for value in odd_values() + [[("a", 2, 1)], [("a", 1, 1), ("a", 2, 2)], {}, "a",
                                     [("a", 1, MOST + 1)], [["a", 1, 1]], [("a", True, 1)]]:
            with self.assertRaises(InvalidContent):
                lines_in_content(value)


class ErrorTest(SurvivorTest):
    def test_order_of_errors(self):
        for function in TAKE_LINE_SET:
            for value in odd_values() + [{}]:
                with self.assertRaises(InvalidLineCounts):
                    function({"a": True}, value)
            for value in odd_values() + [{"b": []}, {"a": [(1, 3)]}, {"a": [(1, 1), (2, 2)]}, []]:
                with self.assertRaises(InvalidLineSet):
                    function({"a": 2}, value)

    def test_keys_without_lines(self):
        counts = {"a": 3, "b": 2, "n": 0}
        for function in TAKE_LINE_SET:
            for line_set in ({}, {"a": [(1, 1)]}, {"a": [(1, 2)], "b": [(2, 2)]}):
                full = {name: line_set.get(name, []) for name in "nba"}
                self.assertEqual(function(counts, full), function(counts, line_set))
                part = dict(line_set, n=[])
                self.assertEqual(function(counts, part), function(counts, line_set))

    def test_results_omit_writers_without_lines(self):
        for line_set in ({"a": []}, {"a": [(1, 2)], "b": []}, {"a": [(1, 2)], "b": [(1, 1)]}):
            self.assertNotIn([], lost_lines({"a": 2, "b": 1, "n": 0}, line_set).values())
        self.assertEqual(lost_lines({"a": 2, "n": 0}, {"a": [(1, 2)], "n": []}), {})


class PropertyTest(SurvivorTest):
    """[37], [38]"""

    def test_one_more_line(self):
        checked = 0
        for counts in SMALL_COUNTS:
            for lines in all_line_sets(counts):
                if len(lines) < 2 or not can_survive(counts, line_set_of(lines)):
                    continue
                before = model_gap_counts(counts, lines)
                for line in lines_of_set(lost_lines(counts, line_set_of(lines))):
                    more = sorted(lines + (line,))
                    if model_gap_counts(counts, more)[line[0]] <= before[line[0]]:
                        checked += 1
                        self.assertIs(can_survive(counts, line_set_of(more)), True)
        self.assertGreater(checked, 100)

    def test_any_numbers_of_lines(self):
        chance = random.Random(37)
        for _ in range(200):
            counts = {name: chance.choice([3, 8, MOST]) for name in chance.sample("abcdef", 4)}
            names = chance.sample(sorted(counts), chance.randint(2, 4))
            numbers = {name: chance.randint(1, counts[name]) for name in names}
            line_set = {name: [(1, numbers[name])] for name in names}
            last = names[0]
            line_set[last] = [(counts[last] - numbers[last] + 1, counts[last])]
            self.assertIs(can_survive(counts, line_set), True)
            self.check_content(counts, line_set)

    def test_all_but_two_lines_lost(self):
        counts = {"a": 2, "b": MOST, "c": MOST}
        content = self.check_content(counts, {"b": [(1, 1)], "c": [(MOST, MOST)]})
        self.assertEqual(content, [("b", 1, 1), ("c", MOST, MOST)])

    def test_at_most_one_writer_has_too_many_gaps(self):
        for counts in SMALL_COUNTS:
            for lines in all_line_sets(counts):
                found = survival_obstruction(counts, line_set_of(lines))
                if found is not None and found[0] == "gaps":
                    others = [writer for writer, many in gap_counts(counts, line_set_of(lines)).items()
                              if many > sum(line[0] != writer for line in lines)]
                    self.assertEqual(others, [found[1]])

    def test_renumbered_from_the_end(self):
        chance = random.Random(38)
        for counts in SMALL_COUNTS:
            for lines in all_line_sets(counts):
                turned = [(writer, counts[writer] + 1 - number) for writer, number in lines]
                self.assertIs(can_survive(counts, line_set_of(turned)),
                              can_survive(counts, line_set_of(lines)))
        for _ in range(300):
            counts = {name: chance.choice([3, 8, MOST]) for name in chance.sample("abcdef", 3)}
            line_set = random_line_set(chance, counts, 3)
            turned = {name: [(counts[name] + 1 - last, counts[name] + 1 - first)
                             for first, last in reversed(listed)]
                      for name, listed in line_set.items()}
            self.assertIs(can_survive(counts, turned), can_survive(counts, line_set))

    def test_lines_of_final_contents_survive(self):
        chance = random.Random(39)
        for _ in range(300):
            counts = {name: chance.choice([0, 1, 5, MOST]) for name in chance.sample("abcdef", 4)}
            content = random_final(chance, counts, 8)
            line_set = lines_in_content(content)
            self.assertIs(can_survive(counts, line_set), True)
            self.check_content(counts, line_set)


if __name__ == "__main__":
    unittest.main()
