"""Points 79 to 83: weights of line sets that can survive."""

import collections
import copy
import itertools
import random
import time
import unittest

from lastcopy.errors import InvalidInteger, InvalidNumbers, TooManyResults
from lastcopy.survivors import can_survive
from lastcopy.weights import (
    is_reachable_weight, lines_with_weight, max_weight, min_weight, total_weights,
)
from tests.calls import bad_uniforms, bad_weights
from tests.support import (
    Prickly, all_line_sets, model_survival_obstructions, odd_values,
)

MOST = 10 ** 30
LETTERS = "abcdefghijkl"
ONE_ARGUMENT = [total_weights, min_weight, max_weight]
UNIFORM = [is_reachable_weight, lines_with_weight]


def counts_of(weights):
    return {writer: len(listed) for writer, listed in weights.items()}


def surviving_sets(weights):
    """All sets of lines that can survive, each with its weight, by the words of point 34."""
    counts = counts_of(weights)
    return [(lines, sum(weights[writer][number - 1] for writer, number in lines))
            for lines in all_line_sets(counts) if not model_survival_obstructions(counts, lines)]


def random_weights(chance, most):
    """Weights of at most so many lines: small ones, equal ones or large ones."""
    weights = {}
    left = chance.randint(0, most)
    low, high = chance.choice([(-3, 3), (0, 1), (-9, -1), (5, 5), (-MOST, MOST)])
    for writer in chance.sample(LETTERS, chance.randint(1, 5)):
        many = chance.randint(0, min(left, 6))
        left -= many
        weights[writer] = [chance.randint(low, high) for _ in range(many)]
    return weights


def size_of(line_set):
    return sum(last - first + 1 for listed in line_set.values() for first, last in listed)


class ExampleTest(unittest.TestCase):
    def test_total_weights(self):
        self.assertEqual(total_weights({"a": [5], "b": [7]}), [(5, 1), (7, 1), (12, 1)])
        with self.assertRaises(TooManyResults) as caught:
            total_weights({"a": [1, 1, 1, 1, 1], "b": [2, 2, 2, 2, 2], "c": [0, 0, 0, 0, 0]})
        self.assertEqual(caught.exception.total, 15)

    def test_min_weight(self):
        self.assertEqual(min_weight({"a": [4], "b": [-2, 3]}), (1, {"b": [(1, 2)]}))
        self.assertEqual(min_weight({"a": [4], "b": [-2, 3]}, size=1), (4, {"a": [(1, 1)]}))

    def test_max_weight(self):
        self.assertEqual(max_weight({"a": [4], "b": [-2, 3]}), (7, {"a": [(1, 1)], "b": [(2, 2)]}))

    def test_uniform(self):
        self.assertIs(is_reachable_weight({"a": (2, 5), "b": (3, -1)}, 7), True)
        self.assertEqual(lines_with_weight({"a": (2, 5), "b": (3, -1)}, 7),
                         {"a": [(1, 2)], "b": [(1, 3)]})
        self.assertIsNone(lines_with_weight({"a": (10 ** 30, 7)}, 7))


class ArgumentTest(unittest.TestCase):
    """[79], [81] and [82]"""

    def test_wrong_weights(self):
        for value in bad_weights() + odd_values():
            for function in ONE_ARGUMENT:
                with self.assertRaises(InvalidNumbers):
                    function(value)
            for function in (min_weight, max_weight):
                with self.assertRaises(InvalidNumbers):
                    function(value, size=-1)

    def test_wrong_numbers_come_before_too_many_lines(self):
        many = {"a": [0] * 60, "b": [True]}
        for function in ONE_ARGUMENT:
            with self.assertRaises(InvalidNumbers):
                function(many)

    def test_limits(self):
        for function, most in ((total_weights, 14), (min_weight, 40), (max_weight, 40)):
            for weights in ({"a": [0] * most}, {"a": [1] * (most - 1), "b": [2]},
                            {letter: [3] for letter in LETTERS}):
                self.assertTrue(function(weights))
            for total in (most + 1, most + 2, 300):
                for weights in ({"a": [0] * total}, {"a": [1] * (total - 1), "b": [2], "c": []}):
                    with self.assertRaises(TooManyResults) as caught:
                        function(weights)
                    self.assertEqual(caught.exception.total, total)

    def test_too_many_lines_come_before_the_size(self):
        for function in (min_weight, max_weight):
            with self.assertRaises(TooManyResults):
                function({"a": [1] * 41}, size=-1)

    def test_sizes(self):
        for value in odd_values() + [-1, -2, -MOST, True, False, 1.0, "1", [1], (1,)]:
            if value is None:
                continue
            for function in (min_weight, max_weight):
                with self.assertRaises(InvalidInteger):
                    function({"a": [1]}, size=value)
        for function in (min_weight, max_weight):
            for size in (0, 2, 40, 41, MOST, 10 ** 40):
                self.assertIsNone(function({"a": [1]}, size=size))
            self.assertEqual(function({"a": [1]}, size=1), (1, {"a": [(1, 1)]}))
            self.assertEqual(function({"a": [1]}, size=None), (1, {"a": [(1, 1)]}))
            with self.assertRaises(TypeError):
                function({"a": [1]}, 1)

    def test_wrong_uniform_weights(self):
        for value in bad_uniforms() + odd_values():
            for function in UNIFORM:
                for total in (0, None, True, Prickly()):
                    with self.assertRaises(InvalidNumbers):
                        function(value, total)

    def test_wrong_totals(self):
        for total in odd_values() + [1.0, "1", [1], (1,), {}, [], True, False]:
            if type(total) is int:
                continue
            for function in UNIFORM:
                for uniform in ({"a": (1, 1)}, {"a": (0, 0)}, {"b": (MOST, 1), "a": (0, 3)}):
                    with self.assertRaises(InvalidInteger):
                        function(uniform, total)

    def test_arguments_are_unchanged_and_not_kept(self):
        weights = {"b": [3, -1], "a": [2], "n": []}
        kept = copy.deepcopy(weights)
        results = [total_weights(weights), min_weight(weights), max_weight(weights, size=2)]
        self.assertEqual(weights, kept)
        before = copy.deepcopy(results)
        for result in results[1:]:
            result[1].clear()
        results[0].clear()
        self.assertEqual([total_weights(weights), min_weight(weights), max_weight(weights, size=2)],
                         before)
        weights["a"][0] = 7
        weights["b"].append(0)
        self.assertEqual(total_weights(weights), total_weights(copy.deepcopy(weights)))
        self.assertNotEqual(total_weights(weights), before[0])
        self.assertEqual(total_weights(dict(reversed(weights.items()))), total_weights(weights))
        self.assertEqual(min_weight(dict(reversed(weights.items()))), min_weight(weights))


class TotalTest(unittest.TestCase):
    """[80]"""

    def test_all_line_sets(self):
        chance = random.Random(80)
        for _ in range(150):
            weights = random_weights(chance, 9)
            expected = collections.Counter(weight for _, weight in surviving_sets(weights))
            self.assertEqual(total_weights(weights), sorted(expected.items()), weights)

    def test_no_lines(self):
        for weights in ({"a": []}, {"a": [], "b": []}, {letter: [] for letter in LETTERS}):
            self.assertEqual(total_weights(weights), [(0, 1)])

    def test_one_writer(self):
        self.assertEqual(total_weights({"a": [7]}), [(7, 1)])
        self.assertEqual(total_weights({"a": [7, -7]}), [(0, 1)])
        self.assertEqual(total_weights({"a": [1] * 14, "b": []}), [(14, 1)])

    def test_twelve_writers(self):
        weights = {letter: [2 ** at] for at, letter in enumerate(LETTERS)}
        # Every set of writers that each have one line, except the empty one.
        self.assertEqual(total_weights(weights), [(number, 1) for number in range(1, 4096)])
        found = total_weights({letter: [1] for letter in LETTERS})
        self.assertEqual(sum(count for _, count in found), 4095)
        self.assertEqual(found[0], (1, 12))

    def test_fourteen_lines(self):
        for weights in ({"a": [1] * 7, "b": [1] * 7}, {"a": [0] * 10, "b": [1] * 4},
                        {"a": list(range(5)), "b": [-3] * 5, "c": [MOST, 1, 2, -MOST]}):
            expected = collections.Counter(weight for _, weight in surviving_sets(weights))
            self.assertEqual(total_weights(weights), sorted(expected.items()))


class ExtremeTest(unittest.TestCase):
    """[81]"""

    def check(self, weights, size, expected):
        """The expected are the weights of all surviving sets of this size."""
        for function, choose in ((min_weight, min), (max_weight, max)):
            result = function(weights, size=size)
            if not expected:
                self.assertIsNone(result, (weights, size))
                continue
            self.assertIs(type(result), tuple)
            weight, line_set = result
            self.assertEqual(weight, choose(expected), (weights, size))
            self.check_set(weights, size, weight, line_set)

    def check_set(self, weights, size, weight, line_set):
        self.assertIs(can_survive(counts_of(weights), line_set), True)
        self.assertEqual(sum(weights[writer][number - 1] for writer, listed in line_set.items()
                             for first, last in listed for number in range(first, last + 1)), weight)
        self.assertTrue(all(line_set.values()))
        if size is not None:
            self.assertEqual(size_of(line_set), size)

    def test_all_line_sets(self):
        chance = random.Random(81)
        for _ in range(150):
            weights = random_weights(chance, 9)
            found = surviving_sets(weights)
            for size in [None] + list(range(sum(counts_of(weights).values()) + 2)):
                self.check(weights, size, [weight for lines, weight in found
                                           if size is None or len(lines) == size])

    def test_larger_sets(self):
        chance = random.Random(811)
        for many in ((7, 7), (10, 3), (5, 5, 4), (12, 1), (2,) * 6):
            weights = {letter: [chance.randint(-9, 9) for _ in range(count)]
                       for letter, count in zip(LETTERS, many)}
            found = surviving_sets(weights)
            for size in [None] + list(range(15)):
                self.check(weights, size, [weight for lines, weight in found
                                           if size is None or len(lines) == size])

    def test_no_lines(self):
        for weights in ({"a": []}, {"a": [], "b": []}):
            for function in (min_weight, max_weight):
                self.assertEqual(function(weights), (0, {}))
                self.assertEqual(function(weights, size=0), (0, {}))
                self.assertIsNone(function(weights, size=1))

    def test_too_many_gaps_for_the_lightest_lines(self):
        # The lines 1, 3, 5, 7 and 9 of a need four lines of others.
        weights = {"a": [-9, 9] * 4 + [-9], "b": [1]}
        self.check(weights, None, [weight for _, weight in surviving_sets(weights)])
        self.assertGreater(min_weight(weights)[0], -45)
        weights = {"a": [-9, 9] * 4 + [-9], "b": [1, 1, 1, 1]}
        self.assertEqual(min_weight(weights)[0], -41)

    def test_forty_lines(self):
        chance = random.Random(812)
        started = time.perf_counter()
        for many in ((20, 20), (40,), (39, 1), (28, 12), (14, 13, 13), (10,) * 4, (29,) + (1,) * 11,
                     (4,) * 4 + (3,) * 8):
            weights = {letter: [chance.randint(-MOST, MOST) for _ in range(count)]
                       for letter, count in zip(LETTERS, many)}
            negative = {letter: [-weight for weight in listed] for letter, listed in weights.items()}
            best = []
            for size in [None] + list(range(41)):
                low = min_weight(weights, size=size)
                high = max_weight(negative, size=size)
                self.assertIs(low is None, high is None)
                if low is not None:
                    self.assertEqual(low[0], -high[0])
                    self.check_set(weights, size, *low)
                    best.append(low[0])
            # The first one is the best one of all sizes.
            self.assertEqual(best[0], min(best[1:]))
            self.assertEqual(low[0], sum(sum(listed) for listed in weights.values()))
        self.assertLess(time.perf_counter() - started, 30)

    def test_two_writers_of_twenty_lines(self):
        # With ten lines of each writer, all lines of one kind are free of the gaps' rule.
        weights = {"a": [1, -1] * 10, "b": [-1, 1] * 10}
        self.assertEqual(min_weight(weights)[0], -20)
        self.assertEqual(max_weight(weights)[0], 20)
        self.assertEqual(min_weight(weights, size=20)[0], -20)
        self.assertEqual(min_weight(weights, size=40)[0], 0)
        self.assertEqual(min_weight(weights, size=2)[0], -2)


class UniformTest(unittest.TestCase):
    """[82] and [83]"""

    def check(self, uniform, total, expected):
        self.assertIs(is_reachable_weight(uniform, total), expected, (uniform, total))
        lines = lines_with_weight(uniform, total)
        if not expected:
            self.assertIsNone(lines)
            return
        counts = {writer: count for writer, (count, _) in uniform.items()}
        self.assertIs(can_survive(counts, lines), True)
        self.assertTrue(all(lines.values()))
        weight = sum((last - first + 1) * uniform[writer][1]
                     for writer, listed in lines.items() for first, last in listed)
        self.assertEqual(weight, total)

    def test_all_line_sets(self):
        weights = (-4, -3, -1, 0, 1, 2, 6)
        for counts in itertools.product(range(4), repeat=2):
            sets = [lines for lines in all_line_sets(dict(zip("ab", counts)))
                    if not model_survival_obstructions(dict(zip("ab", counts)), lines)]
            sizes = {(sum(name == "a" for name, _ in lines), sum(name == "b" for name, _ in lines))
                     for lines in sets}
            for pair in itertools.product(weights, repeat=2):
                reachable = {one * pair[0] + two * pair[1] for one, two in sizes}
                uniform = dict(zip("ab", zip(counts, pair)))
                for total in range(-31, 32):
                    self.check(uniform, total, total in reachable)

    def test_one_writer(self):
        for count, weight in ((0, 5), (1, 5), (3, -2), (MOST, 7), (MOST, 0), (0, 0)):
            for total in (0, 1, 5, -6, 7, 7 * MOST, weight * count, weight * (count - 1)):
                self.check({"a": (count, weight)}, total, total == count * weight)

    def test_drawn_numbers(self):
        chance = random.Random(82)
        for _ in range(2000):
            one, two = ((chance.randint(0, 12), chance.randint(-9, 9)) for _ in range(2))
            reachable = {x * one[1] + y * two[1] for x in range(1, one[0] + 1)
                         for y in range(1, two[0] + 1)}
            reachable |= {one[0] * one[1]} if one[0] else set()
            reachable |= {two[0] * two[1]} if two[0] else set()
            if not one[0] and not two[0]:
                reachable = {0}
            total = chance.choice(sorted(reachable) + [chance.randint(-150, 150)])
            for uniform in ({"a": one, "b": two}, {"b": one, "a": two}):
                self.check(uniform, total, total in reachable)

    def test_large_numbers(self):
        chance = random.Random(83)
        for _ in range(300):
            one, two = ((chance.choice([1, 7, MOST - 1, MOST, chance.randint(1, MOST)]),
                         chance.choice([1, -1, 6, -10, MOST, -MOST, chance.randint(-MOST, MOST)]))
                        for _ in range(2))
            x, y = chance.randint(1, one[0]), chance.randint(1, two[0])
            self.check({"a": one, "b": two}, x * one[1] + y * two[1], True)

    def test_just_reachable_and_just_not(self):
        for p, q in ((MOST, MOST), (1, MOST), (MOST, 3), (1, 1)):
            uniform = {"a": (p, 1), "b": (q, 1)}
            self.check(uniform, p + q, True)
            self.check(uniform, p + q + 1, False)
            self.check(uniform, 2, True)
            self.check(uniform, 1, 1 in (p, q))
            self.check(uniform, 0, False)
            uniform = {"a": (p, 2), "b": (q, 4)}
            self.check(uniform, 2 * p + 4 * q, True)
            self.check(uniform, 2 * p + 4 * q - 1, False)
            self.check(uniform, 2 * p + 4 * q + 2, False)
            uniform = {"a": (p, 1), "b": (q, -1)}
            self.check(uniform, p - 1, True)
            self.check(uniform, p, True)
            self.check(uniform, p + 1, False)
            self.check(uniform, 1 - q, True)
            self.check(uniform, -q, True)
            self.check(uniform, -q - 1, False)
            self.check(uniform, 0, True)

    def test_no_common_divisor(self):
        one, two = 10 ** 29 + 7, 10 ** 28 + 9
        uniform = {"a": (two, one), "b": (one, two)}
        # The greatest number that is no sum of positive multiples is the product.
        self.check(uniform, one * two + 1, True)
        self.check({"a": (two - 1, one), "b": (one - 1, two)}, one * two, False)
        self.check(uniform, one + two, True)
        self.check(uniform, one + two - 1, False)

    def test_counts_and_weights_of_zero(self):
        self.check({"a": (0, 3), "b": (0, 4)}, 0, True)
        self.check({"a": (0, 3), "b": (0, 4)}, 3, False)
        self.check({"a": (0, 3), "b": (2, 4)}, 8, True)
        self.check({"a": (0, 3), "b": (2, 4)}, 4, False)
        self.check({"a": (0, 3), "b": (2, 4)}, 0, False)
        self.check({"a": (MOST, 0), "b": (MOST, 0)}, 0, True)
        self.check({"a": (1, 0), "b": (1, 0)}, 0, True)
        self.check({"a": (MOST, 0), "b": (MOST, 0)}, 1, False)
        self.check({"a": (MOST, 0), "b": (9, -5)}, -45, True)
        self.check({"a": (MOST, 0), "b": (9, -5)}, -50, False)
        self.check({"a": (9, -5), "b": (MOST, 0)}, -5, True)
        self.check({"a": (9, -5), "b": (MOST, 0)}, -6, False)
        self.check({"a": (9, -5), "b": (MOST, 0)}, 5, False)

    def test_totals_beyond_the_limits(self):
        self.check({"a": (MOST, MOST), "b": (MOST, MOST)}, 2 * MOST ** 2, True)
        self.check({"a": (MOST, MOST), "b": (MOST, MOST)}, 2 * MOST ** 2 + MOST, False)


if __name__ == "__main__":
    unittest.main()
