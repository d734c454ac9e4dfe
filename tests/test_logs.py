"""Point 18: functions that take a save log."""

import itertools
import random
import unittest

from lastcopy.errors import InvalidSaveOrder
from lastcopy.schedules import (
    first_invalid_save, is_schedule, save_log, schedule_for_log, state_after,
)
from tests.support import Prickly, model_after, odd_values, random_schedule, search_logs

MOST = 10 ** 30
M = {"a": 2, "b": 1}


class FormTest(unittest.TestCase):
    def check_wrong(self, counts, log):
        for function in (first_invalid_save, schedule_for_log):
            with self.assertRaises(InvalidSaveOrder):
                function(counts, log)

    def test_not_a_list(self):
        for number, value in enumerate(odd_values() + [(), (("a", 1, 1, None),), {}, "", "log"]):
            with self.subTest(number):
                self.check_wrong(M, value)

    def test_not_entries(self):
        bad = [
            (), ("a",), ("a", 1, 1), ("a", 1, 1, None, None), ["a", 1, 1, None],
            ("a", 2, 1, None), ("a", 0, 1, None), ("a", 0, 0, None), ("a", -1, 1, None),
            ("a", 1, 3, None), ("a", 3, 3, None), ("c", 1, 1, None), ("A", 1, 1, None),
            ("", 1, 1, None), (1, 1, 1, None), (None, 1, 1, None), (["a"], 1, 1, None),
            (Prickly(), 1, 1, None), ("a", True, 1, None), ("a", 1, True, None),
            ("a", 1.0, 1, None), ("a", 1, "1", None), ("a", None, 1, None), ("a", 1, [1], None),
            ("a", 1, 1, False), ("a", 1, 1, 0), ("a", 1, 1, ()), ("a", 1, 1, []),
            ("a", 1, 1, "None"), ("a", 1, 1, ("a", 0)), ("a", 1, 1, ("a", 3)),
            ("a", 1, 1, ("c", 1)), ("a", 1, 1, ["b", 1]), ("a", 1, 1, ("b", True)),
            ("a", 1, 1, ("b", 1.0)), ("a", 1, 1, ("b",)), ("a", 1, 1, ("b", 1, 1)),
            ("a", 1, 1, "b"), ("a", 1, 1, Prickly()), ("a", 1, 1, (Prickly(), 1)),
            ("a", 1, 1, ("b", Prickly())), ("b", 1, 2, None), None, "a", {}, 1,
        ]
        for number, item in enumerate(bad + odd_values()):
            with self.subTest(number):
                self.check_wrong(M, [item])
                self.check_wrong(M, [("b", 1, 1, None), item])
                # The form comes before what is possible.
                self.check_wrong(M, [("b", 1, 1, ("a", 1)), item])

    def test_neighbours_that_are_one_entry(self):
        counts = {"a": 3, "b": 1}
        self.check_wrong(counts, [("a", 1, 1, None), ("a", 2, 2, ("a", 1))])
        self.check_wrong(counts, [("a", 1, 1, None), ("a", 2, 3, ("a", 1))])
        self.check_wrong(counts, [("b", 1, 1, None), ("a", 1, 2, ("b", 1)), ("a", 3, 3, ("a", 2))])
        self.check_wrong(counts, [("a", 2, 2, None), ("a", 3, 3, ("a", 2))])

    def test_neighbours_that_are_two_entries(self):
        counts = {"a": 3, "b": 1}
        for log, index in [
                ([("a", 1, 1, None), ("a", 2, 2, None)], 1),
                ([("a", 1, 2, None), ("a", 3, 3, ("a", 1))], 1),
                ([("a", 1, 1, None), ("a", 3, 3, ("a", 1))], 1),
                ([("a", 1, 1, None), ("a", 1, 1, ("a", 1))], 1),
                ([("a", 1, 1, None), ("b", 1, 1, ("a", 1)), ("a", 2, 2, ("a", 1))], None)]:
            self.assertEqual(first_invalid_save(counts, log), index)


class LogTest(unittest.TestCase):
    def check(self, counts, log):
        """The log is one of some schedule, and the schedule found for it shows that."""
        self.assertIsNone(first_invalid_save(counts, log))
        schedule = schedule_for_log(counts, log)
        self.assertIs(type(schedule), list)
        self.assertIs(is_schedule(counts, schedule), True)
        self.assertEqual(save_log(counts, schedule), log)
        self.assertEqual(state_after(counts, schedule)[2], {})
        return schedule

    def test_examples(self):
        log = [("a", 1, 1, None), ("b", 1, 1, None), ("a", 2, 2, None)]
        self.assertEqual(first_invalid_save(M, log), 2)
        self.assertIsNone(schedule_for_log(M, [("a", 1, 1, ("b", 1))]))

    def test_impossible(self):
        counts = {"a": 3, "b": 3, "c": 2}
        cases = [
            ([("a", 2, 2, None)], 0),
            ([("a", 1, 1, ("a", 1))], 0),
            ([("a", 1, 2, ("a", 2))], 0),
            ([("a", 1, 1, ("b", 1)), ("b", 1, 1, None)], 0),
            ([("a", 1, 1, None), ("b", 2, 2, ("a", 1))], 1),
            ([("a", 1, 2, None), ("b", 1, 1, ("a", 3))], 1),
            ([("a", 1, 1, None), ("b", 1, 1, ("a", 1)), ("a", 1, 1, ("b", 1))], 2),
            ([("a", 1, 1, None), ("b", 1, 1, ("a", 1)), ("a", 3, 3, ("b", 1))], 2),
            ([("a", 1, 2, None), ("b", 1, 1, ("a", 2)), ("a", 3, 3, ("a", 1))], 2),
            ([("b", 1, 1, None), ("a", 1, 1, ("b", 1)), ("c", 1, 1, ("a", 1)),
              ("a", 2, 2, ("b", 1))], 3),
            ([("a", 1, 3, None), ("b", 1, 1, None), ("c", 1, 1, None), ("b", 2, 2, ("a", 3))], 3),
        ]
        for log, index in cases:
            self.assertEqual(first_invalid_save(counts, log), index)
            self.assertIsNone(schedule_for_log(counts, log))

    def test_possible(self):
        counts = {"a": 3, "b": 3, "c": 2}
        self.assertEqual(self.check(counts, []), [])
        for log in [
                [("a", 1, 3, None)],
                [("a", 1, 3, None), ("b", 1, 3, None), ("c", 1, 2, None)],
                [("a", 1, 3, None), ("b", 1, 3, ("a", 1)), ("c", 1, 2, ("a", 1))],
                [("a", 1, 3, None), ("b", 1, 3, ("a", 2)), ("c", 1, 2, ("b", 1))],
                [("a", 1, 1, None), ("b", 1, 3, ("a", 1)), ("a", 2, 3, ("b", 2)),
                 ("c", 1, 1, ("b", 3))],
                [("a", 1, 1, None), ("b", 1, 2, None), ("a", 2, 2, ("a", 1)), ("b", 3, 3, ("b", 2)),
                 ("a", 3, 3, ("a", 2))]]:
            self.check(counts, log)

    def test_large(self):
        counts = {"a": MOST, "b": 2, "longname": MOST}
        log = [("a", 1, MOST - 1, None), ("b", 1, 1, ("a", MOST // 2)),
               ("a", MOST, MOST, ("b", 1)), ("longname", 1, MOST, ("a", 7)),
               ("b", 2, 2, ("longname", MOST - 1))]
        self.check(counts, log)
        log[4] = ("b", 2, 2, ("a", MOST - 1))
        self.assertEqual(first_invalid_save(counts, log), 4)
        log[4] = ("b", 2, 2, ("a", MOST))
        self.check(counts, log)

    def test_logs_of_random_schedules(self):
        chance = random.Random(18)
        for _ in range(300):
            names = chance.sample("abcdef", chance.randint(1, 5))
            counts = {name: chance.randint(0, 5) for name in names}
            schedule = random_schedule(chance, counts, chance.randint(0, 25))
            self.check(counts, model_after(counts, schedule).log())

    def test_three_hundred_entries(self):
        chance = random.Random(300)
        counts = {letter: 40 for letter in "abcdefghijkl"}
        log = model_after(counts, random_schedule(chance, counts, 900, 2)).log()
        self.assertGreater(len(log), 300)
        self.check(counts, log[:300])
        self.check(counts, log)
        pairs = {"a": 300, "b": 300}
        log = [("ab"[at % 2], at // 2 + 1, at // 2 + 1,
                None if at < 2 else ("ab"[at % 2], at // 2)) for at in range(600)]
        self.check(pairs, log[:300])
        self.check(pairs, log[:301])
        self.check(pairs, log)


class AllLogsTest(unittest.TestCase):
    """Every short log, valid or not, against the logs of all schedules."""

    def check(self, counts, longest):
        known = search_logs(counts)
        lines = [(writer, number) for writer in counts for number in range(1, counts[writer] + 1)]
        entries = [(writer, first, last, base) for writer, first in lines
                   for last in range(first, counts[writer] + 1) for base in [None] + lines]
        for length in range(longest + 1):
            for log in itertools.product(entries, repeat=length):
                self.check_log(counts, known, log)

    def check_log(self, counts, known, log):
        merged = any(before[0] == after[0] and before[2] + 1 == after[1]
                     and after[3] == (before[0], before[2]) for before, after in zip(log, log[1:]))
        if merged:
            with self.assertRaises(InvalidSaveOrder):
                first_invalid_save(counts, list(log))
            return
        index = next((at for at in range(len(log)) if log[:at + 1] not in known), None)
        self.assertEqual(first_invalid_save(counts, list(log)), index)
        schedule = schedule_for_log(counts, list(log))
        if index is not None:
            self.assertIsNone(schedule)
        else:
            model = model_after(counts, schedule)
            self.assertEqual((tuple(model.log()), model.copies), (log, {}))

    def test_two_writers(self):
        self.check({"a": 2, "b": 1}, 3)

    def test_two_writers_with_two_lines(self):
        self.check({"a": 2, "b": 2}, 2)

    def test_three_writers(self):
        self.check({"c": 1, "a": 1, "b": 1}, 3)

    def test_one_writer(self):
        self.check({"a": 3}, 2)

    def test_all_known_logs(self):
        for counts in ({"a": 2, "b": 2}, {"a": 3, "b": 1}, {"a": 2, "b": 1, "c": 1}):
            for log in search_logs(counts):
                self.check_log(counts, {log[:at] for at in range(len(log) + 1)}, log)


if __name__ == "__main__":
    unittest.main()
