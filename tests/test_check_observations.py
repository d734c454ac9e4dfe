"""Points 62 to 64: obstructions, save orders and schedules of observations, for any value."""

import itertools
import random
import unittest

from lastcopy.check_observations import (
    is_observation_obstruction, is_observed_in, satisfies_constraints,
)
from lastcopy.errors import InvalidLineCounts, InvalidObservations
from lastcopy.observations import constraints
from tests.searches import (
    all_orders, lines_of, model_conflicts, model_constraints, model_is_cycle, model_satisfies,
    model_shows, model_times, segments_of_order,
)
from tests.support import (
    Prickly, compress, is_one_empty_content, odd_values, random_content, random_schedule,
)

MOST = 10 ** 30


class ArgumentTest(unittest.TestCase):
    def call_all(self, counts, value, observations, final):
        return [is_observation_obstruction(counts, observations, value, final=final),
                satisfies_constraints(counts, observations, value, final=final),
                is_observed_in(counts, value, observations, final=final)]

    def test_any_value(self):
        for value in odd_values() + [(), [], {}, "conflict", "cycle", ("cycle",), ["cycle", [None]]]:
            for final in (False, True):
                self.assertEqual(self.call_all({"a": 2, "b": 1}, value, [[("a", 1, 1)]], final),
                                 [False] * 3)

    def test_errors(self):
        for value in odd_values():
            for wrong in odd_values() + [[], (), [[]] * 13, [[("a", 3, 3)]], [[("c", 1, 1)]]]:
                if is_one_empty_content(wrong):
                    continue
                for final in (False, True):
                    for counts, error in (({"a": 2}, InvalidObservations), ({}, InvalidLineCounts),
                                          ({"a": True}, InvalidLineCounts)):
                        with self.assertRaises(error):
                            is_observation_obstruction(counts, wrong, value, final=final)
                        with self.assertRaises(error):
                            satisfies_constraints(counts, wrong, value, final=final)
                        with self.assertRaises(error):
                            is_observed_in(counts, value, wrong, final=final)

    def test_final_is_passed_by_name(self):
        for function in (is_observation_obstruction, satisfies_constraints, is_observed_in):
            with self.assertRaises(TypeError):
                function({"a": 1}, [[]], [[]], True)


class ObstructionTest(unittest.TestCase):
    """[62]"""

    def check(self, counts, observations, value, expected, **options):
        self.assertIs(is_observation_obstruction(counts, observations, value, **options), expected,
                      value)

    def test_example(self):
        self.check({"a": 1, "b": 1}, [[("a", 1, 1)], [("b", 1, 1)], [("a", 1, 1)]],
                   ("cycle", [("a", 1), ("b", 1)]), True)

    def test_changed_conflicts(self):
        counts = {"a": 2, "b": 2}
        observed = [[("a", 1, 1), ("b", 1, 2)], [("b", 1, 1)], [("a", 1, 1), ("b", 1, 1)]]
        good = ("conflict", 0, 1, ("b", 1))
        self.check(counts, observed, good, True)
        self.check(counts, observed, ("conflict", 1, 2, ("b", 1)), True)
        for value in [("conflict", 1, 0, ("b", 1)), ("conflict", 0, 2, ("b", 1)),
                      ("conflict", 0, 1, ("b", 2)), ("conflict", 0, 1, ("a", 1)),
                      ("conflict", 0, 0, ("b", 1)), ("conflict", 0, 3, ("b", 1)),
                      ("conflict", -3, 1, ("b", 1)), ("conflict", False, True, ("b", 1)),
                      ("conflict", 0, True, ("b", 1)), ("conflict", 0.0, 1, ("b", 1)),
                      ("conflict", 0, "1", ("b", 1)), ("conflict", 0, 1, ["b", 1]),
                      ("conflict", 0, 1, ("b", True)), ("conflict", 0, 1, ("b", 3)),
                      ("conflict", 0, 1, ("c", 1)), ("conflict", 0, 1, None),
                      ("conflict", 0, 1, Prickly()), ("conflict", Prickly(), 1, ("b", 1)),
                      ("cycle", 0, 1, ("b", 1)), ("conflicts", 0, 1, ("b", 1)),
                      (Prickly(), 0, 1, ("b", 1)), list(good), good + (0,), good[:3],
                      ("conflict", MOST, MOST + 1, ("b", 1))]:
            self.check(counts, observed, value, False)

    def test_the_first_occurrence_counts(self):
        counts = {"a": 1, "b": 2}
        observed = [[("a", 1, 1), ("b", 1, 1), ("a", 1, 1)], [("a", 1, 1), ("b", 2, 2), ("b", 1, 1)]]
        self.check(counts, observed, ("conflict", 0, 1, ("a", 1)), False)
        self.check(counts, observed, ("conflict", 0, 1, ("b", 1)), True)
        self.check(counts, observed, ("conflict", 0, 1, ("b", 2)), False)

    def test_lines_inside_long_runs(self):
        counts = {"a": MOST, "b": MOST}
        observed = [[("a", 1, MOST)], [("a", 1, 5), ("b", 1, 1), ("a", 7, MOST)]]
        for number, expected in ((1, False), (5, False), (6, False), (7, True), (MOST, True)):
            self.check(counts, observed, ("conflict", 0, 1, ("a", number)), expected)

    def test_changed_cycles(self):
        counts = {"a": 2, "b": 2}
        observed = [[("a", 1, 1)], [("b", 1, 1)], [("a", 1, 1)]]
        good = [("a", 1), ("b", 1)]
        self.check(counts, observed, ("cycle", good), True)
        self.check(counts, observed, ("cycle", good[::-1]), True)
        for lines in [good[:1], good[1:], [], good * 2, good + good[:1], tuple(good), None,
                      [("a", 1), ("b", 2)], [("a", 2), ("b", 1)], [("a", 1), ("b", 1), ("b", 2)],
                      good + [None], [None] + good, [("a", 1), ["b", 1]], [("a", 1), ("b", True)],
                      [("a", 1), ("c", 1)], [("a", 1), ("b", 3)], [("a", 1), ("b", 0)],
                      [("a", 1), Prickly()], [None], [None, None], {"a": 1}, "ab", dict.fromkeys(good)]:
            self.check(counts, observed, ("cycle", lines), False)
        for value in [("cycle", good, 1), ("cycle",), ["cycle", good], ("conflict", good),
                      ("cycles", good), (Prickly(), good), (None, good)]:
            self.check(counts, observed, value, False)

    def test_cycles_through_later_lines_of_a_writer(self):
        counts = {"a": MOST, "b": 5}
        # b2 is saved before a1, and its base is a line of a.
        observed = [[("b", 1, 2)], [("a", 1, 1)], [("b", 1, 2)]]
        self.check(counts, observed, ("cycle", [("a", 1), ("b", 2)]), True)
        self.check(counts, observed, ("cycle", [("a", 1), ("b", 1), ("b", 2)]), False)
        observed = [[("a", 3, 3)]]
        self.check(counts, observed, ("cycle", [("a", 2), None]), True)
        self.check(counts, observed, ("cycle", [("a", 1), ("a", 2), None]), True)
        self.check(counts, observed, ("cycle", [("a", 2), None, ("a", 1)]), True)
        self.check(counts, observed, ("cycle", [("a", 2), None, ("b", 5)]), False)
        self.check(counts, observed, ("cycle", [("a", 2), ("a", 1), None]), False)
        self.check(counts, observed, ("cycle", [("a", 2), None, ("a", 1), None]), False)

    def test_cycles_of_one_line(self):
        observed = [[("a", 1, 1), ("a", 1, 1)]]
        self.check({"a": 1}, observed, ("cycle", [("a", 1)]), True)
        self.check({"a": 1}, [[("a", 1, 1)]], ("cycle", [("a", 1)]), False)
        observed = [[("a", 1, 1), ("b", 1, 1)], [("b", 1, 1)]]
        self.check({"a": 1, "b": 1}, observed, ("cycle", [("b", 1)]), True)
        self.check({"a": 1, "b": 1}, observed, ("cycle", [("a", 1)]), False)

    def test_cycles_that_need_final(self):
        counts = {"a": 2, "b": 1}
        observed = [[("a", 1, 1)]]
        for value in [("cycle", [("a", 1), ("a", 2)]), ("cycle", [("a", 2), ("a", 1)])]:
            self.check(counts, observed, value, False)
            self.check(counts, observed, value, False, final=False)
            self.check(counts, observed, value, True, final=True)
        self.check(counts, [[]], ("cycle", [None, ("b", 1)]), True, final=True)
        self.check(counts, [[]], ("cycle", [None, ("b", 1)]), False)

    def test_all_values(self):
        chance = random.Random(62)
        for counts in ({"a": 2, "b": 1}, {"a": 1, "b": 1, "c": 1}):
            lines = lines_of(counts) + [None]
            cycles = [list(chosen) for many in range(5)
                      for chosen in itertools.permutations(lines, many)]
            for _ in range(25):
                observed = [random_content(chance, counts, 3) for _ in range(chance.randint(1, 3))]
                final = chance.random() < 0.5
                conflicts = model_conflicts(observed)
                for i, j in itertools.product(range(-1, 4), repeat=2):
                    for line in lines:
                        value = ("conflict", i, j, line)
                        self.check(counts, observed, value, value in conflicts, final=final)
                pairs = model_constraints(counts, observed, final)
                for cycle in cycles:
                    expected = model_is_cycle(counts, pairs, cycle)
                    self.check(counts, observed, ("cycle", cycle), expected, final=final)

    def test_large_numbers(self):
        counts = {"a": MOST, "b": MOST}
        observed = [[("a", 1, MOST)], [("b", 1, 1)]]
        self.check(counts, observed, ("cycle", [("b", MOST), ("a", MOST)]), False, final=True)
        observed = observed[::-1]
        self.check(counts, observed, ("cycle", [("b", MOST), ("a", MOST)]), False, final=True)
        observed = [[("a", 1, MOST)], [("b", 1, MOST)], [("a", 1, MOST)]]
        self.check(counts, observed, ("cycle", [("b", MOST), ("a", MOST)]), True)
        self.check(counts, observed, ("cycle", [("b", MOST), ("a", MOST - 1)]), False)
        self.check(counts, observed, ("cycle", [("b", MOST), ("a", MOST), ("b", 7)]), False)
        self.check(counts, observed, ("cycle", [("b", MOST), ("a", MOST)] * 2), False)


class OrderTest(unittest.TestCase):
    """[63]"""

    def check(self, counts, observations, value, expected, **options):
        self.assertIs(satisfies_constraints(counts, observations, value, **options), expected, value)

    def test_example(self):
        observed = [[("a", 1, 1)], [("b", 1, 1)], [("a", 1, 2)]]
        self.check({"a": 2, "b": 1}, observed, [("a", 2), ("b", 1)], False)
        self.check({"a": 2, "b": 1}, observed, [("a", 1), ("b", 1), ("a", 1)], True)

    def test_values_that_are_no_complete_save_order(self):
        counts = {"a": 2, "b": 1, "n": 0}
        for value in [[], (), [("a", 2)], [("b", 1)], [("a", 1), ("b", 1)], [("a", 3), ("b", 1)],
                      [("a", 2), ("b", 2)], [("a", 1), ("a", 1), ("b", 1)],
                      [("a", 2), ("b", 1), ("n", 0)], [("a", 2), ("b", 1), ("c", 1)],
                      [("a", 2), ("b", 1), ("n", 1)], (("a", 2), ("b", 1)), [["a", 2], ["b", 1]],
                      [("a", 2), ("b", True)], [("a", 2.0), ("b", 1)], [("a", "2"), ("b", 1)],
                      [("a", 2), ("b", 1), ("a", 0)], [("a", 2), ("b", 1), ()], {"a": 2, "b": 1},
                      [("a", 2), ("b", 1), Prickly()], [("a", 2), ("b", 1, 1)], [(Prickly(), 2)],
                      [("a", 2), ("b", 1), ("a", -1)], [("a", 2), ("b", 1), None], "a2 b1"]:
            self.check(counts, [[]], value, False)
            self.check(counts, [[("a", 1, 1)]], value, False, final=True)
        self.check(counts, [[]], [("a", 2), ("b", 1)], True)
        self.check(counts, [[]], [("a", 1), ("b", 1), ("a", 1)], True)

    def test_no_lines(self):
        for final in (False, True):
            self.check({"a": 0}, [[]], [], True, final=final)
            self.check({"a": 0, "b": 0}, [[], []], [], True, final=final)
            self.check({"a": 0}, [[]], (), False, final=final)
            self.check({"a": 0}, [[]], [("a", 0)], False, final=final)
            self.check({"a": 0}, [[]], [("a", 1)], False, final=final)

    def test_none_that_comes_later(self):
        self.check({"a": 1}, [[("a", 1, 1)], []], [("a", 1)], False)
        self.check({"a": 1}, [[], [("a", 1, 1)]], [("a", 1)], True)
        self.check({"a": 1}, [[]], [("a", 1)], True)
        self.check({"a": 1}, [[]], [("a", 1)], False, final=True)

    def test_a_line_before_itself(self):
        self.check({"a": 1}, [[("a", 1, 1), ("a", 1, 1)]], [("a", 1)], False)

    def test_a_conflict_without_a_cycle(self):
        counts = {"a": 1, "b": 2}
        observed = [[("a", 1, 1), ("b", 1, 1)], [("b", 1, 2)]]
        pairs = constraints(counts, observed)
        order = [("a", 1), ("b", 2)]
        # The constraints can be satisfied, although no schedule shows the observations.
        self.assertTrue(model_satisfies(pairs, (("a", 1), ("b", 1), ("b", 2))))
        self.check(counts, observed, order, True)

    def test_all_orders(self):
        chance = random.Random(63)
        for counts in ({"a": 2, "b": 2}, {"a": 2, "b": 1, "c": 1}, {"a": 4, "b": 1, "n": 0}):
            orders = all_orders(counts)
            for _ in range(60):
                observed = [random_content(chance, counts, 3) for _ in range(chance.randint(1, 3))]
                for final in (False, True):
                    pairs = model_constraints(counts, observed, final)
                    for order in orders:
                        self.check(counts, observed, segments_of_order(order),
                                   model_satisfies(pairs, order), final=final)

    def test_large_numbers(self):
        counts = {"a": MOST, "b": MOST}
        observed = [[("a", 1, 5), ("b", 7, 7)]]
        # The line b6 was saved before b read a5 on the page.
        self.check(counts, observed, [("a", 5), ("b", MOST), ("a", MOST - 5)], False)
        self.check(counts, observed, [("b", 7), ("a", MOST), ("b", MOST - 7)], False)
        self.check(counts, observed, [("b", 6), ("a", 5), ("b", MOST - 6), ("a", MOST - 5)], True)
        self.check(counts, observed, [("a", 4), ("b", 6), ("a", 1), ("b", MOST - 6),
                                      ("a", MOST - 5)], True)
        self.check(counts, [[("a", 1, 5), ("b", 1, 1)]],
                   [("a", 5), ("b", 1), ("a", MOST - 5), ("b", MOST - 1)], True)


class ShownTest(unittest.TestCase):
    """[64]"""

    def check(self, counts, value, observations, expected, **options):
        self.assertIs(is_observed_in(counts, value, observations, **options), expected, value)

    def test_examples(self):
        self.check({"a": 2}, [("append", "a", 2)], [[("a", 1, 1)]], True)

    def test_schedules_that_are_not_complete(self):
        observed = [[("a", 1, 1)]]
        counts = {"a": 2, "b": 1}
        whole = [("append", "a", 2), ("append", "b", 1)]
        self.check(counts, whole, observed, True)
        for value in [whole[:1], [], whole[::-1][:1], tuple(whole), whole + [("read", "a")],
                      [("append", "a", 1), ("append", "b", 1), ("read", "a")],
                      [("append", "a", 3), ("append", "b", 1)], [list(part) for part in whole],
                      [("append", "a", True), ("append", "a", 1), ("append", "b", 1)],
                      whole + [("leave", "a")], whole + [Prickly()], {"a": 1}, "append a 2"]:
            self.check(counts, value, observed, False)

    def test_times_that_decrease(self):
        counts = {"a": 2, "b": 1}
        schedule = [("read", "b"), ("append", "a", 1), ("save", "b"), ("append", "a", 1)]
        pages = [[], [("a", 1, 1)], [("b", 1, 1)], [("b", 1, 1), ("a", 2, 2)]]
        for places in itertools.product(range(4), repeat=3):
            expected = list(places) == sorted(places)
            observed = [pages[place] for place in places]
            self.check(counts, schedule, observed, expected)
            self.check(counts, schedule, observed, expected and places[-1] == 3, final=True)
        self.check(counts, schedule, [[("a", 1, 2)]], False)
        self.check(counts, schedule, [[("a", 2, 2)]], False)
        self.check(counts, schedule, [[("b", 1, 1), ("a", 1, 1)]], False)

    def test_between_the_saves_of_an_append(self):
        counts = {"a": 5, "b": 1}
        schedule = [("append", "b", 1), ("append", "a", 5)]
        for last in range(1, 6):
            observed = [[("b", 1, 1), ("a", 1, last)]]
            self.check(counts, schedule, observed, True)
            self.check(counts, schedule, observed, last == 5, final=True)
        self.check(counts, schedule, [[("b", 1, 1), ("a", 1, 3)], [("b", 1, 1), ("a", 1, 2)]], False)

    def test_no_lines(self):
        for final in (False, True):
            self.check({"a": 0}, [], [[], ()], True, final=final)
            self.check({"a": 0}, [("read", "a")], [[]], False, final=final)

    def test_drawn_schedules(self):
        chance = random.Random(64)
        found = {True: 0, False: 0}
        for _ in range(500):
            counts = {name: chance.randint(0, 3) for name in "abc"}
            schedule = random_schedule(chance, counts, chance.randint(6, 12), 3)
            other = random_schedule(chance, counts, 12, 3)
            pages = [compress(page) for page in model_times(counts, other)[0]]
            observed = [pages[at] for at in sorted(chance.choices(range(len(pages)), k=2))]
            for each in (schedule, other):
                for final in (False, True):
                    expected = model_shows(counts, each, observed, final)
                    self.check(counts, each, observed, expected, final=final)
                    found[expected] += 1
        self.assertGreater(min(found.values()), 100)

    def test_large_numbers(self):
        counts = {"a": MOST, "b": 1}
        schedule = [("append", "a", MOST), ("append", "b", 1)]
        self.check(counts, schedule, [[("a", 1, 7)], [("a", 1, MOST - 1)], [("a", 1, MOST)]], True)
        self.check(counts, schedule, [[("a", 1, 7)], [("a", 1, 6)]], False)
        self.check(counts, schedule, [[("a", 1, MOST), ("b", 1, 1)]], True, final=True)
        self.check(counts, schedule, [[("a", 1, MOST)]], False, final=True)


if __name__ == "__main__":
    unittest.main()
