"""Points 20, 21 and 23 to 25: the checks of obstructions and schedules of final contents."""

import random
import unittest

from lastcopy.check_final import is_final_obstruction, is_schedule_to_final
from lastcopy.contents import append_line, is_prefix, reverse_content
from lastcopy.errors import InvalidContent, InvalidLineCounts
from lastcopy.final import (
    can_appear, can_be_final, final_obstruction, next_lines, schedule_to_appear, schedule_to_final,
)
from tests.support import (
    Prickly, all_contents, compress, expand, model_after, odd_values, random_appearing,
    random_content, random_final, random_schedule, search_contents,
)

MOST = 10 ** 30
NAMES = ["empty", "start", "decreasing", "split", "end"]


def all_obstructions(counts, content):
    """The obstructions that hold, by the words of point 20."""
    found = []
    if not content:
        return [("empty",)] if any(counts.values()) else []
    if content[0][1] != 1:
        found.append(("start",))
    for at, (writer, first, _) in enumerate(content):
        if any(run[0] == writer and run[2] >= first for run in content[:at]):
            found.append(("decreasing", at))
        if at > 0 and content[at - 1][0] == writer:
            found.append(("split", at))
    if content[-1][2] != counts[content[-1][0]]:
        found.append(("end",))
    return found


def candidates(content):
    """Every value that has the form of an obstruction, with indices also out of range."""
    found = [(name,) for name in NAMES]
    for at in range(-len(content) - 1, len(content) + 2):
        found.extend((name, at) for name in NAMES)
    return found


class ObstructionTest(unittest.TestCase):
    """[20]"""

    def check(self, counts, content):
        expected = all_obstructions(counts, content)
        for value in candidates(content):
            self.assertIs(is_final_obstruction(counts, content, value), value in expected,
                          (counts, content, value))
            self.assertIs(is_final_obstruction(counts, tuple(content), value), value in expected)

    def test_examples(self):
        counts = {"a": 3, "b": 1}
        self.assertEqual(final_obstruction(counts, [("a", 1, 1), ("a", 3, 3)]), ("split", 1))
        content = [("a", 2, 2)]
        self.assertEqual([final_obstruction(counts, content),
                          is_final_obstruction(counts, content, ("end",))], [("start",), True])

    def test_each_kind(self):
        counts = {"a": 5, "b": 5, "n": 0}
        cases = [
            ([], [("empty",)]),
            ([("a", 2, 5)], [("start",)]),
            ([("a", 1, 4)], [("end",)]),
            ([("a", 2, 4)], [("start",), ("end",)]),
            ([("a", 1, 3), ("b", 1, 1), ("a", 3, 5)], [("decreasing", 2)]),
            ([("a", 1, 2), ("a", 4, 5)], [("split", 1)]),
            ([("a", 1, 2), ("a", 2, 5)], [("decreasing", 1), ("split", 1)]),
            ([("b", 5, 5), ("a", 1, 2), ("b", 1, 1), ("b", 4, 4), ("a", 1, 1)],
             [("start",), ("decreasing", 2), ("decreasing", 3), ("split", 3), ("decreasing", 4),
              ("end",)]),
            ([("a", 1, 5)], []),
            ([("b", 1, 1), ("a", 2, 5)], []),
        ]
        for content, expected in cases:
            for value in candidates(content):
                self.assertIs(is_final_obstruction(counts, content, value), value in expected,
                              (content, value))

    def test_an_earlier_run_that_is_not_the_last_one(self):
        content = [("a", 1, 4), ("b", 1, 1), ("a", 1, 1), ("b", 2, 2), ("a", 3, 5)]
        for at in (2, 4):
            self.assertIs(is_final_obstruction({"a": 5, "b": 2}, content, ("decreasing", at)), True)

    def test_no_lines_at_all(self):
        for counts in ({"a": 0}, {"a": 0, "b": 0}):
            self.check(counts, [])
            self.assertIs(is_final_obstruction(counts, [], ("empty",)), False)
        for counts in ({"a": 1}, {"a": 0, "b": 1}, {"a": 0, "b": MOST}):
            self.check(counts, [])
            self.assertIs(is_final_obstruction(counts, [], ("empty",)), True)

    def test_all_short_contents(self):
        for counts in ({"a": 2, "b": 2}, {"a": 3}, {"a": 1, "b": 1, "c": 1}):
            for lines in all_contents(counts, 4):
                self.check(counts, compress(lines))

    def test_random_contents(self):
        chance = random.Random(20)
        for _ in range(300):
            counts = {"a": chance.randint(1, 5), "b": chance.randint(0, MOST), "c": 4}
            runs = []
            for _ in range(chance.randint(0, 6)):
                writer = chance.choice([name for name in counts if counts[name] > 0])
                first = chance.choice([1, chance.randint(1, counts[writer])])
                last = chance.choice([first, counts[writer], chance.randint(first, counts[writer])])
                if not (runs and runs[-1][0] == writer and runs[-1][2] == first - 1):
                    runs.append((writer, first, last))
            self.check(counts, runs)
            result = final_obstruction(counts, runs)
            if result is not None:
                self.assertIs(is_final_obstruction(counts, runs, result), True)

    def test_no_obstruction_of_a_final_content(self):
        chance = random.Random(21)
        for _ in range(100):
            counts = {"a": chance.randint(0, 5), "b": chance.randint(0, 5), "c": 4}
            content = random_final(chance, counts, 6)
            for value in candidates(content):
                self.assertIs(is_final_obstruction(counts, content, value), False)

    def test_changed_in_one_place(self):
        counts = {"a": 5, "b": 5}
        content = [("a", 2, 3), ("a", 2, 2), ("b", 1, 1), ("b", 3, 3)]
        for good in (("start",), ("end",), ("decreasing", 1), ("split", 1), ("split", 3)):
            self.assertIs(is_final_obstruction(counts, content, good), True)
            bad = [list(good), good + (None,), good + (1,), good[:-1], (), (good,), [good],
                   (good[0].upper(),) + good[1:], (good[0].encode(),) + good[1:],
                   (good[0] + " ",) + good[1:], (None,) + good[1:], (Prickly(),) + good[1:],
                   ([good[0]],) + good[1:], dict.fromkeys(good), frozenset(good), good[0]]
            if len(good) == 2:
                bad += [(good[0], index) for index in
                        (float(good[1]), str(good[1]), [good[1]], None, Prickly(), good[1] - 4,
                         MOST, -MOST, 10 ** 40)]
            for value in bad:
                self.assertIs(is_final_obstruction(counts, content, value), False, good)
        for name in ("decreasing", "split"):
            self.assertIs(is_final_obstruction(counts, content, (name, True)), False)
            self.assertIs(is_final_obstruction(counts, content, (name, False)), False)
        self.assertIs(is_final_obstruction(counts, [], ("empty", 0)), False)

    def test_any_value(self):
        for value in odd_values():
            for content in ([], [("a", 2, 2)], [("a", 1, 3)]):
                self.assertIs(is_final_obstruction({"a": 3}, content, value), False)

    def test_errors(self):
        for value in [("empty",), ("start",)] + odd_values():
            with self.assertRaises(InvalidLineCounts):
                is_final_obstruction({"a": -1}, [("z", 1, 1)], value)
            with self.assertRaises(InvalidContent):
                is_final_obstruction({"a": 1}, [("z", 1, 1)], value)

    def test_many_runs(self):
        for many in (200, 201, 400):
            content = [("ab"[at % 2], at + 1, at + 1) for at in range(many)]
            counts = {"a": many, "b": many}
            self.assertEqual(all_obstructions(counts, content), [])
            for value in candidates(content)[::37]:
                self.assertIs(is_final_obstruction(counts, content, value), False)
            content[-1] = (content[-1][0], 1, many)
            self.assertIs(is_final_obstruction(counts, content, ("decreasing", many - 1)), True)


class ScheduleTest(unittest.TestCase):
    """[21]"""

    def test_examples(self):
        counts = {"a": 2, "b": 1}
        content = [("b", 1, 1)]
        schedule = schedule_to_final(counts, content)
        self.assertEqual([is_schedule_to_final(counts, schedule, content),
                          schedule_to_final(counts, [("a", 1, 1)])], [True, None])
        schedule = [("append", "a", 1), ("append", "b", 1)]
        self.assertIs(is_schedule_to_final({"a": 1, "b": 1}, schedule,
                                           [("a", 1, 1), ("b", 1, 1)]), True)

    def test_each_way_to_fail(self):
        counts = {"a": 2, "b": 1}
        schedule = [("append", "a", 1), ("read", "a"), ("append", "b", 1), ("save", "a")]
        content = [("a", 1, 2)]
        self.assertIs(is_schedule_to_final(counts, schedule, content), True)
        self.assertIs(is_schedule_to_final(counts, schedule, tuple(content)), True)
        wrong = [
            [], schedule[:-1], schedule[1:], schedule[:2] + schedule[3:], schedule + [("read", "a")],
            schedule + [("append", "b", 1)], [("append", "a", 2)], tuple(schedule),
            [list(action) for action in schedule], schedule[::-1], schedule + [None],
            [("append", "a", True)] + schedule[1:], [("append", "a", 2), ("append", "b", 1)],
            [("append", "b", 1), ("append", "a", 2)], [("append", "a", 2), ("read", "b")],
            [("append", "c", 1)] + schedule, [("append", "a", 3)],
        ]
        for value in wrong:
            self.assertIs(is_schedule_to_final(counts, value, content), False, value)
        for other in ([], [("a", 1, 1)], [("b", 1, 1)], [("a", 1, 2), ("b", 1, 1)], [("a", 2, 2)],
                      [("b", 1, 1), ("a", 1, 2)], [("a", 1, 2), ("a", 1, 2)]):
            self.assertIs(is_schedule_to_final(counts, schedule, other), False, other)

    def test_unsaved_lines(self):
        content = [("a", 1, 1)]
        self.assertIs(is_schedule_to_final({"a": 1}, [("append", "a", 1)], content), True)
        self.assertIs(is_schedule_to_final({"a": 2}, [("append", "a", 1)], content), False)
        self.assertIs(is_schedule_to_final({"a": 1, "b": 1}, [("append", "a", 1)], content), False)

    def test_a_held_copy(self):
        schedule = [("read", "b"), ("append", "a", 1)]
        self.assertIs(is_schedule_to_final({"a": 1, "b": 1}, schedule, [("a", 1, 1)]), False)
        self.assertIs(is_schedule_to_final({"a": 1, "b": 0}, schedule[1:], [("a", 1, 1)]), True)

    def test_no_lines_at_all(self):
        for counts in ({"a": 0}, {"a": 0, "b": 0}):
            self.assertIs(is_schedule_to_final(counts, [], []), True)
            self.assertIs(is_schedule_to_final(counts, [], ()), True)
            self.assertIs(is_schedule_to_final(counts, (), []), False)
            self.assertIs(is_schedule_to_final(counts, [("read", "a")], []), False)
        self.assertIs(is_schedule_to_final({"a": 1}, [], []), False)

    def test_against_the_model(self):
        chance = random.Random(21)
        right = 0
        for _ in range(1500):
            counts = {"a": chance.randint(0, 2), "b": chance.randint(0, 2), "c": 1}
            schedule = random_schedule(chance, counts, 12)
            model = model_after(counts, schedule)
            complete = model.saved == counts
            right += complete
            page = compress(model.page)
            self.assertIs(is_schedule_to_final(counts, schedule, page), complete)
            other = random_content(chance, counts, 3)
            if other != page:
                self.assertIs(is_schedule_to_final(counts, schedule, other), False)
        self.assertGreater(right, 200)

    def test_returned_schedules(self):
        chance = random.Random(22)
        for _ in range(200):
            counts = {name: chance.choice([0, 1, 3, MOST]) for name in "abcd"}
            content = random_final(chance, counts, 8)
            schedule = schedule_to_final(counts, content)
            self.assertIs(is_schedule_to_final(counts, schedule, content), True)
            other = random_final(chance, counts, 8)
            self.assertIs(is_schedule_to_final(counts, schedule, other), other == content)

    def test_any_value(self):
        for value in odd_values():
            self.assertIs(is_schedule_to_final({"a": 1}, value, [("a", 1, 1)]), False)
            self.assertIs(is_schedule_to_final({"a": 1}, [value], [("a", 1, 1)]), False)
            self.assertIs(is_schedule_to_final({"a": 0}, value, []), False)

    def test_errors(self):
        for value in [[], [("append", "a", 1)]] + odd_values():
            with self.assertRaises(InvalidLineCounts):
                is_schedule_to_final({"a": True}, value, None)
            with self.assertRaises(InvalidContent):
                is_schedule_to_final({"a": 1}, value, [("a", 1, True)])


class PropertyTest(unittest.TestCase):
    """[23] to [25], over both modules"""

    def setUp(self):
        self.chance = random.Random(25)

    def random_counts(self):
        names = self.chance.sample("abcdef", self.chance.randint(1, 5))
        return {name: self.chance.randint(0, 5) for name in names}

    def has_schedule(self, counts, content):
        return is_schedule_to_final(counts, schedule_to_final(counts, content), content)

    def test_prefixes_and_longer_contents(self):
        for _ in range(100):
            counts = self.random_counts()
            content = random_appearing(self.chance, counts, 6)
            lines = expand(content)
            for count in range(len(lines) + 1):
                prefix = compress(lines[:count])
                self.assertIs(can_appear(counts, prefix), True)
                self.assertIsNotNone(schedule_to_appear(counts, prefix))
            longer = content
            while not can_be_final(counts, longer):
                writer, first, _ = self.chance.choice(next_lines(counts, longer))
                longer = append_line(longer, (writer, first))
            self.assertIs(is_prefix(content, longer), True)
            self.assertIs(self.has_schedule(counts, longer), True)

    def test_reversal(self):
        for _ in range(200):
            counts = self.random_counts()
            content = random_final(self.chance, counts, 6)
            self.assertIs(self.has_schedule(counts, reverse_content(counts, content)), True)
            if any(counts.values()):
                content = random_content(self.chance, counts, 4)
                turned = reverse_content(counts, content)
                self.assertIs(self.has_schedule(counts, turned),
                              self.has_schedule(counts, content))

    def test_another_writer(self):
        for _ in range(100):
            counts = self.random_counts()
            content = random_final(self.chance, counts, 6)
            if content:
                for count in (0, 1, MOST):
                    self.assertIs(self.has_schedule(dict(counts, other=count), content), True)

    def test_split_writer(self):
        for _ in range(200):
            counts = self.random_counts()
            content = random_final(self.chance, counts, 6)
            writer = self.chance.choice(list(counts))
            if counts[writer] > 0:
                kept = self.chance.randint(0, counts[writer] - 1)
                parted = dict(counts, rest=counts[writer] - kept)
                parted[writer] = kept
                lines = [("rest", number - kept) if name == writer and number > kept
                         else (name, number) for name, number in expand(content)]
                self.assertIs(self.has_schedule(parted, compress(lines)), True)

    def test_all_but_two_lines_lost(self):
        for counts in ({"a": 1, "b": 1}, {"a": 7, "b": 3, "c": 9}, {"a": MOST, "b": MOST}):
            content = [("a", 1, 1), ("b", counts["b"], counts["b"])]
            self.assertIs(self.has_schedule(counts, content), True)

    def test_two_runs(self):
        counts = {"a": 3, "b": 2, "c": 1}
        runs = [(writer, first, last) for writer in counts for first in range(1, counts[writer] + 1)
                for last in range(first, counts[writer] + 1)]
        for one in runs:
            for other in runs:
                if one[0] != other[0]:
                    expected = one[1] == 1 and other[2] == counts[other[0]]
                    self.assertIs(self.has_schedule(counts, [one, other]), expected)
                    for value in (("start",), ("end",)):
                        wrong = one[1] != 1 if value == ("start",) else other[2] != counts[other[0]]
                        self.assertIs(is_final_obstruction(counts, [one, other], value), wrong)

    def test_all_schedules_of_small_counts(self):
        for counts in ({"a": 2, "b": 1}, {"a": 2, "b": 2}, {"a": 1, "b": 1, "c": 1}, {"a": 0}):
            _, finals = search_contents(counts)
            for lines in all_contents(counts, 4):
                content = compress(lines)
                self.assertIs(self.has_schedule(counts, content), lines in finals)
                held = [value for value in candidates(content)
                        if is_final_obstruction(counts, content, value)]
                self.assertEqual(held == [], lines in finals)


if __name__ == "__main__":
    unittest.main()
