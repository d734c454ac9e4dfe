"""Points 59 to 65: observations, their constraints, obstructions, orders and schedules."""

import itertools
import random
import time
import unittest

from lastcopy.check_observations import (
    is_observation_obstruction, is_observed_in, satisfies_constraints,
)
from lastcopy.errors import InvalidLineCounts, InvalidObservations
from lastcopy.final import can_appear, can_be_final
from lastcopy.observations import (
    consistent_order, constraints, is_consistent, observation_obstruction,
    schedule_with_observations,
)
from lastcopy.schedules import count_overwrites, is_schedule, page_history
from tests.searches import (
    all_orders, complete_histories, model_conflicts, model_constraints, model_is_cycle,
    model_satisfies, model_shows, order_of_segments, segments_of_order,
)
from tests.support import (
    Prickly, all_contents, compress, is_one_empty_content, odd_values, random_content, random_final,
    random_schedule,
)

MOST = 10 ** 30
LETTERS = "abcdefghijkl"
FUNCTIONS = [constraints, is_consistent, observation_obstruction, consistent_order,
             schedule_with_observations]


class ObservationTest(unittest.TestCase):
    def check_results(self, counts, observations, final, expected=None):
        """Checks all five results against each other, and against what is expected."""
        pairs = constraints(counts, observations, final=final)
        self.assertEqual(pairs, model_constraints(counts, observations, final))
        consistent = is_consistent(counts, observations, final=final)
        if expected is not None:
            self.assertIs(consistent, expected, (counts, observations, final))
        obstruction = observation_obstruction(counts, observations, final=final)
        order = consistent_order(counts, observations, final=final)
        schedule = schedule_with_observations(counts, observations, final=final)
        if consistent:
            self.assertIsNone(obstruction)
            self.check_order(counts, order, pairs)
            self.assertIs(satisfies_constraints(counts, observations, order, final=final), True)
            self.assertIs(is_schedule(counts, schedule), True)
            self.assertIs(is_observed_in(counts, schedule, observations, final=final), True)
            self.assertTrue(self.small(counts) is False
                            or model_shows(counts, schedule, observations, final))
        else:
            self.assertEqual((order, schedule), (None, None))
            self.assertIs(
                is_observation_obstruction(counts, observations, obstruction, final=final), True)
            if self.small(counts):
                self.check_obstruction(counts, observations, obstruction, pairs)
        return consistent

    def small(self, counts):
        return sum(counts.values()) < 100

    def check_order(self, counts, order, pairs):
        self.assertIs(type(order), list)
        self.assertTrue(all(one[0] != two[0] for one, two in zip(order, order[1:])))
        self.assertTrue(all(type(part) is tuple and part[1] > 0 for part in order))
        sums = dict.fromkeys(counts, 0)
        for writer, count in order:
            sums[writer] += count
        self.assertEqual(sums, counts)
        if self.small(counts):
            self.assertTrue(model_satisfies(pairs, order_of_segments(order)))

    def check_obstruction(self, counts, observations, obstruction, pairs):
        conflicts = model_conflicts(observations)
        self.assertIs(type(obstruction), tuple)
        if conflicts:
            self.assertIn(obstruction, conflicts)
        else:
            self.assertEqual(obstruction[0], "cycle")
            self.assertEqual(len(obstruction), 2)
            self.assertIs(type(obstruction[1]), list)
            self.assertTrue(model_is_cycle(counts, pairs, obstruction[1]))


class ExampleTest(unittest.TestCase):
    counts = {"a": 2, "b": 1}
    observed = [[("a", 1, 1)], [("b", 1, 1)], [("a", 1, 2)]]

    def test_constraints(self):
        self.assertEqual(constraints(self.counts, self.observed), [
            (None, ("a", 1)), (None, ("b", 1)), (("a", 1), ("b", 1)), (("b", 1), ("a", 2))])

    def test_consistent(self):
        self.assertEqual([is_consistent(self.counts, self.observed),
                          is_consistent(self.counts, self.observed[::-1])], [True, False])

    def test_obstruction(self):
        self.assertEqual(observation_obstruction(
            {"a": 1, "b": 1}, [[("a", 1, 1), ("b", 1, 1)], [("b", 1, 1)]]),
            ("conflict", 0, 1, ("b", 1)))

    def test_order(self):
        self.assertEqual(consistent_order(self.counts, self.observed),
                         [("a", 1), ("b", 1), ("a", 1)])

    def test_schedule(self):
        schedule = schedule_with_observations(self.counts, self.observed)
        self.assertIs(is_observed_in(self.counts, schedule, self.observed), True)


class ConstraintTest(unittest.TestCase):
    """[60]"""

    def check(self, counts, observations, expected, **options):
        self.assertEqual(constraints(counts, observations, **options), expected)

    def test_first_lines_of_runs(self):
        content = [("a", 1, 2), ("b", 3, 4), ("a", 5, 5)]
        self.check({"a": 5, "b": 4}, [content], [
            (None, ("a", 1)), (("a", 2), ("b", 3)), (("a", 4), ("b", 4)), (("b", 2), ("a", 2)),
            (("b", 4), ("a", 5))])

    def test_a_base_of_none(self):
        self.check({"a": 3}, [[("a", 3, 3)]], [(None, ("a", 3)), (("a", 2), None)])
        self.check({"a": 3}, [[("a", 1, 3)]], [(None, ("a", 1))])

    def test_the_same_writer_twice(self):
        self.check({"a": 3}, [[("a", 1, 1), ("a", 3, 3)]],
                   [(None, ("a", 1)), (("a", 1), ("a", 3)), (("a", 2), ("a", 1))])
        self.check({"a": 3}, [[("a", 1, 1), ("a", 1, 1)]],
                   [(None, ("a", 1)), (("a", 1), ("a", 1))])

    def test_observations_that_differ(self):
        one, two = [("a", 1, 1)], [("b", 1, 1)]
        counts = {"a": 1, "b": 1}
        starts = [(None, ("a", 1)), (None, ("b", 1))]
        self.check(counts, [one, two], starts + [(("a", 1), ("b", 1))])
        self.check(counts, [one, one, two], starts + [(("a", 1), ("b", 1))])
        self.check(counts, [one, tuple(one)], starts[:1])
        self.check(counts, [one, two, one], starts + [(("a", 1), ("b", 1)), (("b", 1), ("a", 1))])
        self.check(counts, [one, []], starts[:1] + [(("a", 1), None)])
        self.check(counts, [[], one], starts[:1])
        self.check(counts, [[], [], ()], [])
        self.check(counts, [[], two, []], [(None, ("b", 1)), (("b", 1), None)])

    def test_the_same_last_line_on_different_bases(self):
        counts = {"a": 1, "b": 1}
        self.check(counts, [[("a", 1, 1), ("b", 1, 1)], [("b", 1, 1)]],
                   [(None, ("a", 1)), (None, ("b", 1)), (("a", 1), ("b", 1)), (("b", 1), ("b", 1))])

    def test_final(self):
        counts = {"a": 2, "b": 5, "n": 0}
        one = [("a", 1, 2)]
        start = [(None, ("a", 1))]
        self.check(counts, [one], start)
        self.check(counts, [one], start, final=False)
        self.check(counts, [one], start + [(("b", 5), ("a", 2))], final=True)
        self.check(counts, [[("a", 1, 1)]], start + [(("a", 2), ("a", 1)), (("b", 5), ("a", 1))],
                   final=True)
        self.check(counts, [one, []], start + [(("a", 2), None), (("b", 5), None)], final=True)
        self.check({"n": 0, "m": 0}, [[]], [], final=True)

    def test_against_the_words(self):
        chance = random.Random(60)
        for _ in range(200):
            counts = {name: chance.randint(0, 5) for name in chance.sample("abcd", 3)}
            if not any(counts.values()):
                continue
            observations = [random_content(chance, counts, 4) for _ in range(chance.randint(1, 5))]
            for final in (False, True):
                self.check(counts, observations, model_constraints(counts, observations, final),
                           final=final)

    def test_large_numbers(self):
        self.check({"a": MOST, "b": MOST}, [[("a", 1, MOST - 1), ("b", MOST, MOST)]], [
            (None, ("a", 1)), (("a", MOST - 1), ("b", MOST)), (("a", MOST), ("b", MOST)),
            (("b", MOST - 1), ("a", MOST - 1))], final=True)


class ArgumentTest(unittest.TestCase):
    """[59] and the errors of the section."""

    def check_wrong(self, value, counts=None):
        for function in FUNCTIONS:
            for final in (False, True):
                with self.assertRaises(InvalidObservations):
                    function(counts or {"a": 2, "b": 1}, value, final=final)
                with self.assertRaises(InvalidLineCounts):
                    function({"a": True}, value, final=final)

    def test_number_of_observations(self):
        for many in range(1, 13):
            for function in FUNCTIONS:
                function({"a": 1}, [[("a", 1, 1)]] * many)
                function({"a": 1}, ([("a", 1, 1)],) * many, final=True)
        for many in (0, 13, 14, 300):
            self.check_wrong([[("a", 1, 1)]] * many)
            self.check_wrong(((),) * many)

    def test_wrong_observations(self):
        for value in odd_values() + [
                {}, {0: []}, iter([[]]), [("a", 1, 1)], (("a", 1, 1),), [[("a", 1, 3)]],
                [[("c", 1, 1)]], [[("a", 0, 1)]], [[("a", 1, True)]], [[["a", 1, 1]]],
                [[("a", 1, 1), ("a", 2, 2)]], [[], None], [[], {}], [[], "", []], [[("a", 2, 1)]],
                [[Prickly()]], [[], Prickly()], [[("a", 1, 1)], [("b", 2, 2)]], [[("a", 1)]],
                [set()], [iter([])], [range(0)]]:
            if not is_one_empty_content(value):
                self.check_wrong(value)

    def test_lists_and_tuples(self):
        counts = {"a": 2, "b": 1}
        lists = [[("a", 1, 1)], [("b", 1, 1)], [("a", 1, 2)]]
        for function in FUNCTIONS:
            expected = function(counts, lists)
            self.assertEqual(function(counts, tuple(lists)), expected)
            self.assertEqual(function(counts, [tuple(content) for content in lists]), expected)
            self.assertEqual(function(counts, tuple(tuple(content) for content in lists)), expected)

    def test_final_is_passed_by_name(self):
        for function in FUNCTIONS:
            with self.assertRaises(TypeError):
                function({"a": 1}, [[("a", 1, 1)]], True)


class SearchTest(ObservationTest):
    """All lists of observations of small line counts, against all schedules."""

    def check_all(self, counts, longest, many):
        histories = complete_histories(counts)
        contents = all_contents(counts, longest)
        for observed in itertools.product(contents, repeat=many):
            observations = [compress(lines) for lines in observed]
            showing = [history for history in histories if history.shows(observed, False)]
            self.check_results(counts, observations, False, bool(showing))
            last = [history for history in showing if history.shows(observed, True)]
            self.check_results(counts, observations, True, bool(last))

    def test_one_observation(self):
        for counts in ({"a": 0}, {"a": 1}, {"a": 3}, {"a": 1, "b": 1}, {"a": 2, "b": 1, "n": 0},
                       {"a": 2, "b": 2}, {"a": 1, "b": 1, "c": 1}):
            self.check_all(counts, 4, 1)

    def test_two_observations(self):
        for counts, longest in (({"a": 2}, 3), ({"a": 1, "b": 1}, 3), ({"a": 2, "b": 1}, 3),
                                ({"a": 1, "b": 1, "c": 1}, 2), ({"a": 2, "b": 2}, 2)):
            self.check_all(counts, longest, 2)

    def test_three_observations(self):
        self.check_all({"a": 1, "b": 1}, 2, 3)
        self.check_all({"a": 2, "b": 1}, 2, 3)

    def test_drawn_contents_that_appear(self):
        chance = random.Random(61)
        for counts in ({"a": 2, "b": 2}, {"a": 3, "b": 1}, {"a": 2, "b": 1, "c": 1}):
            histories = complete_histories(counts)
            shown = sorted({content for history in histories for content in history.contents})
            for _ in range(150):
                observed = [chance.choice(shown) for _ in range(chance.randint(2, 3))]
                if chance.random() < 0.6:
                    history = chance.choice(histories)
                    observed = [chance.choice(history.contents) for _ in range(4)]
                    observed.sort(key=history.places.get)
                observations = [compress(lines) for lines in observed]
                for final in (False, True):
                    expected = any(history.shows(observed, final) for history in histories)
                    self.check_results(counts, observations, final, expected)

    def test_the_orders_that_satisfy_the_constraints(self):
        """[63]: they are the orders of the schedules that show the observations."""
        chance = random.Random(63)
        for counts in ({"a": 2, "b": 2}, {"a": 2, "b": 1, "c": 1}, {"a": 3, "b": 1}):
            histories = complete_histories(counts)
            orders = all_orders(counts)
            for _ in range(60):
                history = chance.choice(histories)
                observed = [chance.choice(history.contents) for _ in range(chance.randint(1, 3))]
                observed.sort(key=history.places.get)
                observations = [compress(lines) for lines in observed]
                for final in (False, True):
                    shown = {each.order for each in histories if each.shows(observed, final)}
                    if not shown:
                        continue
                    pairs = constraints(counts, observations, final=final)
                    for order in orders:
                        self.assertIs(model_satisfies(pairs, order), order in shown)
                        self.assertIs(satisfies_constraints(
                            counts, observations, segments_of_order(order), final=final),
                            order in shown)


class DrawnTest(ObservationTest):
    def draw(self, chance, counts, length):
        schedule = random_schedule(chance, counts, length)
        pages = page_history(counts, schedule)
        chosen = sorted(chance.choice(range(len(pages))) for _ in range(chance.randint(1, 12)))
        return [pages[at] for at in chosen]

    def test_pages_of_schedules(self):
        chance = random.Random(64)
        for _ in range(150):
            counts = {name: chance.choice([0, 1, 3, 9, 20]) for name in chance.sample(LETTERS, 4)}
            observations = self.draw(chance, counts, 30)
            self.check_results(counts, observations, False, True)
            self.check_results(counts, observations, True)

    def test_changed_pages(self):
        chance = random.Random(65)
        found = {True: 0, False: 0}
        for _ in range(300):
            counts = {name: chance.choice([1, 2, 3]) for name in chance.sample(LETTERS, 3)}
            observations = self.draw(chance, counts, 10)
            at = chance.randrange(len(observations))
            if chance.random() < 0.5:
                observations[at] = random_final(chance, counts, 3)
            else:
                chance.shuffle(observations)
            for final in (False, True):
                found[self.check_results(counts, observations, final)] += 1
        self.assertGreater(min(found.values()), 50)

    def test_any_contents(self):
        chance = random.Random(66)
        for _ in range(300):
            counts = {name: chance.choice([1, 2, 3]) for name in chance.sample(LETTERS, 2)}
            observations = [random_content(chance, counts, 3) for _ in range(chance.randint(1, 4))]
            self.check_results(counts, observations, chance.random() < 0.3)

    def test_large_numbers(self):
        chance = random.Random(67)
        for _ in range(60):
            counts = {name: chance.choice([3, MOST, MOST - 1]) for name in chance.sample(LETTERS, 5)}
            observations = self.draw(chance, counts, 40)
            self.check_results(counts, observations, False, True)
            self.check_results(counts, observations[::-1], True)

    def test_conflicts_of_large_numbers(self):
        counts = {"a": MOST, "b": MOST}
        one = [("a", 1, MOST), ("b", 1, MOST)]
        other = [("a", 1, 1), ("b", 5, 5), ("a", MOST - 1, MOST)]
        obstruction = observation_obstruction(counts, [one, other])
        self.assertEqual(obstruction[:3], ("conflict", 0, 1))
        self.assertIs(is_observation_obstruction(counts, [one, other], obstruction), True)
        self.assertIn(obstruction[3], [("a", MOST - 1), ("a", MOST), ("b", 5)])

    def test_a_conflict_behind_lines_that_repeat(self):
        counts = {"a": 2, "b": 2}
        twice = [("a", 1, 1), ("b", 1, 1), ("a", 1, 1)]
        once = [("a", 1, 1), ("b", 2, 2), ("a", 1, 1)]
        # The first occurrence counts, so there is no conflict, but a cycle.
        obstruction = observation_obstruction(counts, [twice, once])
        self.assertEqual(obstruction[0], "cycle")
        obstruction = observation_obstruction(counts, [twice, [("a", 1, 1), ("b", 2, 2), ("b", 1, 1)]])
        self.assertEqual(obstruction, ("conflict", 0, 1, ("b", 1)))

    def test_no_lines_at_all(self):
        for counts in ({"a": 0}, {"a": 0, "b": 0}):
            for observations in ([[]], [[], []], [()] * 12):
                for final in (False, True):
                    self.check_results(counts, observations, final, True)
                    self.assertEqual(consistent_order(counts, observations, final=final), [])
                    self.assertEqual(
                        schedule_with_observations(counts, observations, final=final), [])

    def test_empty_observations(self):
        counts = {"a": 1, "b": 2}
        one = [("a", 1, 1)]
        self.check_results(counts, [[]], False, True)
        self.check_results(counts, [[]], True, False)
        self.check_results(counts, [[], one], False, True)
        self.check_results(counts, [one, []], False, False)
        self.check_results(counts, [[], one], True, True)

    def test_twelve_long_contents(self):
        """The largest observations, in a time that a slow machine keeps, too."""
        counts = {letter: MOST for letter in LETTERS}
        runs = [(letter, 2 * number - 1, 2 * number) for number in range(1, 17)
                for letter in LETTERS]
        growing = [runs[:16 * at] for at in range(1, 13)]
        apart = [[(LETTERS[at], 1, 1)] + [(letter, 100 * at + 2 * number, 100 * at + 2 * number)
                                          for number in range(1, 17) for letter in LETTERS[:at + 1]]
                 for at in range(1, 12)]
        started = time.perf_counter()
        self.check_results(counts, growing, False, True)
        self.check_results(counts, growing[::-1], False, False)
        self.check_results(counts, apart, False, True)
        self.check_results(counts, [runs, runs[12:]], False, False)
        self.check_results(counts, [runs[:at] + runs[at + 12:] for at in range(12)], False, False)
        self.assertLess(time.perf_counter() - started, 10)


class PropertyTest(ObservationTest):
    """[65]"""

    def test_a_single_observation(self):
        for counts in ({"a": 0}, {"a": 2}, {"a": 2, "b": 1}, {"a": 1, "b": 1, "c": 1}):
            for lines in all_contents(counts, 4):
                content = compress(lines)
                self.assertIs(is_consistent(counts, [content]), can_appear(counts, content))
                self.assertIs(is_consistent(counts, [content], final=True),
                              can_be_final(counts, content))

    def test_a_single_drawn_observation(self):
        chance = random.Random(651)
        for _ in range(200):
            counts = {name: chance.choice([1, 2, MOST]) for name in chance.sample(LETTERS, 3)}
            content = [(w, chance.choice([f, l]), l) for w, f, l in [
                chance.choice([(name, 1, counts[name]), (name, counts[name], counts[name])])
                for name in chance.sample(sorted(counts), chance.randint(1, 3))]]
            self.assertIs(is_consistent(counts, [content]), can_appear(counts, content))
            self.assertIs(is_consistent(counts, [content], final=True),
                          can_be_final(counts, content))

    def test_removed_and_repeated(self):
        chance = random.Random(652)
        for _ in range(100):
            counts = {name: chance.choice([1, 2, 5, MOST]) for name in chance.sample(LETTERS, 3)}
            pages = page_history(counts, random_schedule(chance, counts, 12, 3))
            chosen = sorted(chance.choice(range(len(pages))) for _ in range(chance.randint(2, 11)))
            observations = [pages[at] for at in chosen]
            at = chance.randrange(len(observations))
            repeated = observations[:at + 1] + observations[at:]
            removed = observations[:at] + observations[at + 1:]
            self.assertIs(is_consistent(counts, observations), True)
            self.assertIs(is_consistent(counts, repeated), True)
            self.assertIs(is_consistent(counts, removed), True)
            if is_consistent(counts, observations, final=True):
                self.assertIs(is_consistent(counts, repeated, final=True), True)
                if at < len(observations) - 1:
                    self.assertIs(is_consistent(counts, removed, final=True), True)

    def test_a_schedule_may_have_overwrites(self):
        counts = {"a": 2, "b": 1}
        schedule = schedule_with_observations(counts, ExampleTest.observed, final=True)
        self.assertGreater(count_overwrites(counts, schedule), 0)


if __name__ == "__main__":
    unittest.main()
