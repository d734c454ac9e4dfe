"""Points 52 to 58: save orders and the contents that they can produce."""

import itertools
import random
import unittest

from lastcopy.contents import is_content, is_line_counts
from lastcopy.errors import InvalidContent, InvalidInteger, InvalidLine, InvalidSaveOrder
from lastcopy.final import can_be_final, schedule_to_final
from lastcopy.save_orders import (
    count_outcomes, count_outcomes_with, count_outcomes_with_both, is_outcome, line_counts_of,
    lines_in_all_outcomes, nth_outcome, outcome_index, shortest_outcome,
)
from lastcopy.schedules import save_log
from tests.support import (
    Prickly, all_contents, compress, expand, line_set_of, odd_values, random_final,
    search_contents,
)

MOST = 10 ** 30
ORDER = [("x", 1), ("a", 1), ("x", 1), ("a", 1)]


def totals(order):
    found = {}
    for writer, count in order:
        found[writer] = found.get(writer, 0) + count
    return found


def saved_lines(order):
    """The lines in the order in which they are saved."""
    done = {}
    lines = []
    for writer, count in order:
        for _ in range(count):
            done[writer] = done.get(writer, 0) + 1
            lines.append((writer, done[writer]))
    return lines


def model_outcomes(order):
    """All outcomes, in their order, each as a tuple of lines, by the words of points 53 and 54."""
    lines = saved_lines(order)
    starts = {sum(count for _, count in order[:at]) for at in range(len(order))}
    ending = []
    for time, (writer, _) in enumerate(lines):
        previous = max((at for at in range(time) if lines[at][0] == writer), default=None)
        if time not in starts:
            bases = [time - 1]
        elif previous is None:
            bases = list(range(time))
        else:
            bases = list(range(previous, time))
        found = [(time,)] if time in starts and previous is None else []
        ending.append(found + [before + (time,) for base in bases for before in ending[base]])
    # Backwards, a content that has no line left comes before one that has.
    in_order = sorted(ending[-1], key=lambda times: times[::-1])
    return [tuple(lines[time] for time in times) for times in in_order]


def search_pages(order):
    """The pages at the end of all schedules that save in this order, by trying all reads."""
    writers = sorted(totals(order))
    states = {((), (None,) * len(writers))}
    lines = saved_lines(order)
    for time, line in enumerate(lines):
        left = [any(later[0] == writer for later in lines[time:]) for writer in writers]
        # Every writer that has a line left may read now.
        for at in range(len(writers)):
            if left[at]:
                states |= {(page, copies[:at] + (page,) + copies[at + 1:])
                           for page, copies in states if copies[at] is None}
        at = writers.index(line[0])
        states = {(copies[at] + (line,), copies[:at] + (None,) + copies[at + 1:])
                  for page, copies in states if copies[at] is not None}
    return {page for page, _ in states}


def all_orders(names, most_segments, longest):
    for size in range(1, most_segments + 1):
        for writers in itertools.product(names, repeat=size):
            if all(one != two for one, two in zip(writers, writers[1:])):
                for counts in itertools.product(range(1, longest + 1), repeat=size):
                    yield list(zip(writers, counts))


SMALL_ORDERS = list(all_orders("ab", 4, 2)) + list(all_orders("abc", 3, 2)) + [
    [("c", 1), ("a", 1), ("b", 1), ("a", 1), ("c", 1)], [("a", 9), ("b", 1), ("a", 1)],
    [("a", 3), ("b", 3), ("a", 1), ("b", 1)], [("a", 2), ("c", 2), ("b", 2), ("a", 2)],
    [("b", 1), ("a", 1), ("b", 1), ("a", 1), ("b", 1), ("a", 1)], [("a", 4)], [("b", 1), ("a", 5)],
    [("d", 1), ("c", 1), ("b", 1), ("a", 1), ("d", 1)], ORDER,
]


def random_order(chance, most_segments, longest, names="abcdefghijkl"):
    order = []
    for _ in range(chance.randint(1, most_segments)):
        writer = chance.choice([name for name in names if not (order and order[-1][0] == name)])
        order.append((writer, chance.randint(1, longest)))
    return order


class OrderTest(unittest.TestCase):
    def times(self, order):
        """By line the time of its save."""
        return {line: time for time, line in enumerate(saved_lines(order))}

    def place(self, order, content):
        """What orders the outcomes: the times from the last line backwards."""
        times = self.times(order)
        return [times[line] for line in reversed(expand(content))]


class LineCountsTest(OrderTest):
    """[52]"""

    def test_examples(self):
        self.assertEqual(sorted(line_counts_of(ORDER).items()), [("a", 2), ("x", 2)])
        with self.assertRaises(InvalidSaveOrder):
            line_counts_of([])

    def test_cases(self):
        letters = "abcdefghijkl"
        cases = [
            ([("a", 1)], {"a": 1}), ([("abcdefgh", MOST)], {"abcdefgh": MOST}),
            ([("a", MOST - 1), ("b", 2), ("a", 1)], {"a": MOST, "b": 2}),
            ([(letter, 2) for letter in letters] * 3, {letter: 6 for letter in letters}),
            ([("b", 1), ("a", 1)] * 100, {"a": 100, "b": 100}),
            ([("b", 1), ("a", 1)] * 150, {"a": 150, "b": 150}),
        ]
        for order, expected in cases:
            found = line_counts_of(order)
            self.assertEqual(found, expected)
            self.assertIs(is_line_counts(found), True)

    def test_wrong_orders(self):
        letters = "abcdefghijklm"
        wrong = [
            [], (), {}, "", "a1", (("a", 1),), {"a": 1}, {("a", 1)}, [["a", 1]], [("a",)], [()],
            [("a", 1, 1)], [("a", 0)], [("a", -1)], [("a", True)], [("a", False)], [("a", 1.0)],
            [("a", "1")], [("a", None)], [("a", [1])], [("A", 1)], [("", 1)], [("abcdefghi", 1)],
            [("a1", 1)], [(1, 1)], [(None, 1)], [(["a"], 1)], [(b"a", 1)], [("a", 1), ("a", 1)],
            [("a", 1), ("b", 1), ("b", 2)], [("a", 1), ("b", 1), ["a", 1]], [("a", MOST + 1)],
            [("a", MOST), ("b", 1), ("a", 1)], [("a", 1), ("b", 1), ("a", MOST)],
            [(letter, 1) for letter in letters], [("a", 1), Prickly()], [(Prickly(), 1)],
            [("a", Prickly())], [("a", 1), None], [None, ("a", 1)], [1], ["a"], iter([("a", 1)]),
        ]
        functions = [
            (line_counts_of,), (is_outcome, None), (count_outcomes,), (nth_outcome, None),
            (outcome_index, None), (shortest_outcome,), (count_outcomes_with, None),
            (count_outcomes_with_both, None, None), (lines_in_all_outcomes,),
        ]
        for function, *rest in functions:
            for value in wrong + odd_values():
                with self.assertRaises(InvalidSaveOrder):
                    function(value, *rest)

    def test_limits(self):
        for order in ([("a", MOST)], [("a", MOST - 1), ("b", MOST), ("a", 1)],
                      [(letter, 1) for letter in "abcdefghijkl"]):
            self.assertEqual(line_counts_of(order), totals(order))
            self.assertGreater(count_outcomes(order), 0)


class OutcomeTest(OrderTest):
    """[53]"""

    def test_examples(self):
        self.assertIs(is_outcome(ORDER, [("x", 1, 2), ("a", 2, 2)]), True)
        self.assertIs(is_outcome(ORDER, [("x", 1, 1), ("a", 2, 2)]), False)

    def test_model_agrees_with_all_schedules(self):
        for order in SMALL_ORDERS:
            outcomes = model_outcomes(order)
            self.assertEqual(len(outcomes), len(set(outcomes)))
            self.assertEqual(set(outcomes), search_pages(order), order)

    def test_all_contents(self):
        for order in SMALL_ORDERS:
            outcomes = set(model_outcomes(order))
            counts = totals(order)
            if sum(counts.values()) <= 5 and len(counts) <= 3:
                for lines in all_contents(counts, min(4, sum(counts.values()))):
                    self.assertIs(is_outcome(order, compress(lines)), lines in outcomes,
                                  (order, lines))
            for lines in outcomes:
                self.assertIs(is_outcome(order, compress(lines)), True)
                self.assertIs(is_outcome(order, tuple(compress(lines))), True)

    def test_outcomes_changed_in_one_place(self):
        chance = random.Random(53)
        for _ in range(300):
            order = random_order(chance, 7, 3, "abc")
            outcomes = set(model_outcomes(order))
            every = saved_lines(order)
            lines = list(chance.choice(sorted(outcomes)))
            at = chance.randrange(len(lines))
            changes = [lines[:at] + lines[at + 1:], lines[:at] + [chance.choice(every)] + lines[at:],
                       lines[:at] + [chance.choice(every)] + lines[at + 1:], lines[at:], lines[:at],
                       lines + [chance.choice(every)], lines[::-1]]
            for changed in changes:
                self.assertIs(is_outcome(order, compress(changed)), tuple(changed) in outcomes,
                              (order, changed))

    def test_bases(self):
        # A base inside a segment of another writer, and the empty page for a first segment.
        order = [("a", 3), ("b", 4), ("a", 2)]
        for number in range(1, 5):
            for start in ([("b", 1, number)], [("a", 1, 2), ("b", 1, number)],
                          [("a", 1, 3), ("b", 1, number)]):
                self.assertIs(is_outcome(order, start + [("a", 4, 5)]), True)
            self.assertIs(is_outcome(order, [("b", 2, number + 2), ("a", 4, 5)]), False)
        self.assertIs(is_outcome(order, [("a", 1, 5)]), True)
        wrong = [
            [], [("a", 4, 5)], [("a", 1, 3)], [("a", 1, 4)], [("b", 1, 4), ("a", 5, 5)],
            [("b", 1, 4), ("a", 4, 4)], [("a", 1, 3), ("b", 3, 4), ("a", 4, 5)],
            [("a", 2, 5)], [("b", 1, 4), ("a", 1, 5)], [("a", 1, 5), ("b", 1, 4)],
            [("a", 1, 2), ("a", 4, 5)], [("a", 1, 2), ("b", 1, 4), ("a", 3, 5)],
            [("a", 1, 3), ("b", 1, 1), ("b", 3, 4), ("a", 4, 5)],
        ]
        for content in wrong:
            self.assertIs(is_outcome(order, content), False, content)

    def test_lines_saved_before_the_previous_segment(self):
        order = [("b", 3), ("a", 1), ("c", 1), ("a", 1)]
        for number in range(1, 4):
            self.assertIs(is_outcome(order, [("b", 1, number), ("a", 1, 2)]), True)
            self.assertIs(is_outcome(order, [("b", 1, number), ("a", 2, 2)]), False)
            self.assertIs(is_outcome(order, [("b", 1, number), ("c", 1, 1), ("a", 2, 2)]), True)
        self.assertIs(is_outcome(order, [("c", 1, 1), ("a", 2, 2)]), True)
        self.assertIs(is_outcome(order, [("a", 1, 1), ("c", 1, 1), ("a", 2, 2)]), True)

    def test_any_value(self):
        wrong = [(), {}, [], "a", [["a", 1, 1]], [("a", 1)], [("a", True, 1)], [("a", 1, 2, 3)],
                 [("a", 1, 1), ("a", 2, 2)], [("q", 1, 1)], [("x", 1, 3), ("a", 2, 2)],
                 {("a", 1, 2): 1}, iter([("a", 1, 2)]), [("x", 1, 2), ("a", 2, 2), Prickly()],
                 [("x", 1, 2), ["a", 2, 2]], [("x", 0, 2), ("a", 2, 2)]]
        for value in wrong + odd_values():
            self.assertIs(is_outcome(ORDER, value), False)
            self.assertIs(is_outcome([("a", 1)], value), False)

    def test_large_counts(self):
        order = [("a", MOST - 7), ("b", MOST), ("a", 7)]
        self.assertIs(is_outcome(order, [("a", 1, MOST)]), True)
        self.assertIs(is_outcome(order, [("b", 1, 5), ("a", MOST - 6, MOST)]), True)
        self.assertIs(is_outcome(order, [("b", 1, 5), ("a", MOST - 5, MOST)]), False)
        self.assertIs(is_outcome(order, [("a", 1, 5), ("b", 1, MOST), ("a", MOST - 6, MOST)]), True)
        self.assertIs(is_outcome(order, [("a", 1, 5), ("b", 1, MOST)]), False)


class NumberTest(OrderTest):
    """[54]"""

    def test_examples(self):
        self.assertEqual(count_outcomes(ORDER), 5)
        self.assertEqual(nth_outcome(ORDER, 2), [("x", 1, 2), ("a", 2, 2)])
        with self.assertRaises(InvalidInteger):
            nth_outcome(ORDER, 5)
        self.assertEqual(outcome_index(ORDER, [("a", 1, 1), ("x", 2, 2), ("a", 2, 2)]), 3)
        with self.assertRaises(InvalidContent):
            outcome_index(ORDER, [("a", 1, 1)])

    def test_every_outcome_of_small_orders(self):
        for order in SMALL_ORDERS:
            outcomes = [compress(lines) for lines in model_outcomes(order)]
            self.assertEqual(count_outcomes(order), len(outcomes), order)
            for index, content in enumerate(outcomes):
                found = nth_outcome(order, index)
                self.assertIs(type(found), list)
                self.assertEqual(found, content, (order, index))
                self.assertEqual(outcome_index(order, content), index)
                self.assertEqual(outcome_index(order, tuple(content)), index)
            for index in (-1, len(outcomes), len(outcomes) + 1, -len(outcomes)):
                with self.assertRaises(InvalidInteger):
                    nth_outcome(order, index)

    def test_random_orders(self):
        chance = random.Random(54)
        for _ in range(200):
            order = random_order(chance, 7, 3, "abcd")
            outcomes = [compress(lines) for lines in model_outcomes(order)]
            self.assertEqual(count_outcomes(order), len(outcomes))
            for index in chance.sample(range(len(outcomes)), min(20, len(outcomes))):
                self.assertEqual(nth_outcome(order, index), outcomes[index])
                self.assertEqual(outcome_index(order, outcomes[index]), index)

    def test_all_lines_in_their_order(self):
        chance = random.Random(55)
        for _ in range(100):
            order = random_order(chance, 40, 30)
            content = compress(saved_lines(order))
            self.assertIs(is_outcome(order, content), True)
            self.assertEqual(nth_outcome(order, outcome_index(order, content)), content)

    def test_order_of_outcomes(self):
        chance = random.Random(56)
        for _ in range(40):
            order = random_order(chance, 200, 2)
            many = count_outcomes(order)
            indices = sorted({0, many - 1} | {chance.randrange(many) for _ in range(6)})
            places = [self.place(order, nth_outcome(order, index)) for index in indices]
            self.assertEqual(places, sorted(places))
            self.assertEqual(len(set(map(tuple, places))), len(indices))

    def test_first_and_last_index(self):
        chance = random.Random(57)
        for _ in range(100):
            order = random_order(chance, 7, 3, "abcd")
            outcomes = model_outcomes(order)
            for index in (0, len(outcomes) - 1):
                content = compress(outcomes[index])
                self.assertEqual(nth_outcome(order, index), content)
                self.assertEqual(outcome_index(order, content), index)

    def test_one_and_two_segments(self):
        self.assertEqual(count_outcomes([("a", MOST)]), 1)
        self.assertEqual(nth_outcome([("a", MOST)], 0), [("a", 1, MOST)])
        order = [("a", MOST), ("b", MOST)]
        self.assertEqual(count_outcomes(order), MOST + 1)
        self.assertEqual(nth_outcome(order, 0), [("b", 1, MOST)])
        for number in (1, 2, MOST // 3, MOST):
            content = [("a", 1, number), ("b", 1, MOST)]
            self.assertEqual(nth_outcome(order, number), content)
            self.assertEqual(outcome_index(order, content), number)
        self.assertEqual(count_outcomes([("a", MOST - 5), ("b", MOST), ("a", 5)]),
                         1 + MOST * (1 + MOST - 5))

    def test_200_segments_of_large_counts(self):
        chance = random.Random(58)
        for many, names in ((200, "abcdefghijkl"), (200, "ab"), (201, "abc"), (400, "abcdefgh")):
            order = []
            while len(order) < many:
                writer = chance.choice([name for name in names
                                        if not (order and order[-1][0] == name)])
                order.append((writer, chance.randint(1, MOST // 400)))
            number = count_outcomes(order)
            for index in [0, number - 1] + [chance.randrange(number) for _ in range(3)]:
                content = nth_outcome(order, index)
                self.assertIs(is_outcome(order, content), True)
                self.assertEqual(outcome_index(order, content), index)

    def test_wrong_indices(self):
        for value in odd_values() + [5, 6, -1, -5, MOST, 10 ** 40, -10 ** 40, 10 ** 400, True, False,
                                     0.0, "0", [0], (0,)]:
            with self.assertRaises(InvalidInteger):
                nth_outcome(ORDER, value)

    def test_wrong_contents(self):
        wrong = [[], (), {}, "a", [("x", 1, 1), ("a", 2, 2)], [("a", 1, 2), ("x", 1, 1)],
                 [("a", 2, 2)], [("q", 1, 1)], [("a", 1, 3)], [("a", True, 2)], [["a", 1, 2]],
                 [("x", 1, 2)], [("x", 1, 2), ("a", 2, 2), ("a", 2, 2)], [("a", 1, 1), ("a", 2, 2)]]
        for value in wrong + odd_values():
            with self.assertRaises(InvalidContent):
                outcome_index(ORDER, value)


class ShortestTest(OrderTest):
    """[55]"""

    def test_example(self):
        self.assertEqual(shortest_outcome([("a", 9), ("b", 1), ("a", 1)]), [("b", 1, 1), ("a", 10, 10)])

    def check(self, order):
        outcomes = model_outcomes(order)
        fewest = min(map(len, outcomes))
        expected = next(lines for lines in outcomes if len(lines) == fewest)
        found = shortest_outcome(order)
        self.assertIs(type(found), list)
        self.assertEqual(found, compress(expected), order)

    def test_small_orders(self):
        for order in SMALL_ORDERS:
            self.check(order)

    def test_random_orders(self):
        chance = random.Random(55)
        for _ in range(300):
            self.check(random_order(chance, 8, 3, chance.choice(["ab", "abc", "abcd"])))

    def test_ties(self):
        self.assertEqual(shortest_outcome([("a", 1), ("b", 1), ("a", 1)]), [("a", 1, 2)])
        self.assertEqual(shortest_outcome([("a", 2), ("b", 1), ("c", 1), ("a", 1)]),
                         [("b", 1, 1), ("a", 3, 3)])
        self.assertEqual(shortest_outcome([("a", 2), ("b", 2), ("c", 1), ("a", 1)]),
                         [("b", 1, 1), ("a", 3, 3)])
        self.assertEqual(shortest_outcome([("a", 3), ("b", 2)]), [("b", 1, 2)])

    def test_large_counts(self):
        self.assertEqual(shortest_outcome([("a", MOST)]), [("a", 1, MOST)])
        self.assertEqual(shortest_outcome([("a", MOST - 1), ("b", MOST), ("a", 1)]),
                         [("b", 1, 1), ("a", MOST, MOST)])
        chance = random.Random(56)
        for many in (200, 201, 400):
            order = [("ab"[at % 2], chance.randint(1, MOST // 400)) for at in range(many)]
            content = shortest_outcome(order)
            self.assertIs(is_outcome(order, content), True)


class ContainedTest(OrderTest):
    """[56]"""

    def test_examples(self):
        self.assertEqual(count_outcomes_with(ORDER, ("x", 1)), 3)
        with self.assertRaises(InvalidLine):
            count_outcomes_with(ORDER, ("x", 3))
        self.assertEqual(count_outcomes_with_both(ORDER, ("a", 1), ("x", 2)), 2)

    def check(self, order):
        outcomes = [set(lines) for lines in model_outcomes(order)]
        lines = saved_lines(order)
        for one in lines:
            self.assertEqual(count_outcomes_with(order, one),
                             sum(one in found for found in outcomes), (order, one))
            for other in lines:
                self.assertEqual(count_outcomes_with_both(order, one, other),
                                 sum(one in found and other in found for found in outcomes),
                                 (order, one, other))

    def test_small_orders(self):
        for order in SMALL_ORDERS:
            self.check(order)

    def test_random_orders(self):
        chance = random.Random(56)
        for _ in range(60):
            self.check(random_order(chance, 6, 3, chance.choice(["ab", "abc", "abcd"])))

    def test_large_counts(self):
        order = [("a", MOST), ("b", MOST)]
        for number in (1, 2, MOST // 3, MOST):
            self.assertEqual(count_outcomes_with(order, ("a", number)), MOST + 1 - number)
            self.assertEqual(count_outcomes_with(order, ("b", number)), MOST + 1)
            self.assertEqual(count_outcomes_with_both(order, ("b", 7), ("a", number)),
                             MOST + 1 - number)
            self.assertEqual(count_outcomes_with_both(order, ("a", number), ("a", 5)),
                             MOST + 1 - max(number, 5))

    def test_200_segments_of_large_counts(self):
        chance = random.Random(57)
        for many, names in ((200, "abcdefghijkl"), (201, "abc"), (400, "abcdefgh")):
            order = []
            while len(order) < many:
                writer = chance.choice([name for name in names
                                        if not (order and order[-1][0] == name)])
                order.append((writer, chance.randint(1, MOST // 400)))
            number = count_outcomes(order)
            counts = line_counts_of(order)
            last = (order[-1][0], counts[order[-1][0]])
            self.assertEqual(count_outcomes_with(order, last), number)
            for _ in range(5):
                writer = chance.choice(sorted(counts))
                line = (writer, chance.randint(1, counts[writer]))
                other = (last[0], chance.randint(1, last[1]))
                with_line = count_outcomes_with(order, line)
                self.assertLessEqual(with_line, number)
                self.assertEqual(count_outcomes_with_both(order, line, last), with_line)
                self.assertEqual(count_outcomes_with_both(order, line, line), with_line)
                both = count_outcomes_with_both(order, line, other)
                self.assertEqual(count_outcomes_with_both(order, other, line), both)
                self.assertLessEqual(with_line + count_outcomes_with(order, other) - both, number)

    def test_wrong_lines(self):
        wrong = [("x", 3), ("x", 0), ("x", -1), ("q", 1), ("x",), ("x", 1, 1), ["x", 1], ("x", True),
                 ("x", 1.0), ("x", "1"), ("X", 1), (["x"], 1), "x1", ("x", MOST), [], {}]
        for value in wrong + odd_values():
            with self.assertRaises(InvalidLine):
                count_outcomes_with(ORDER, value)
            with self.assertRaises(InvalidLine):
                count_outcomes_with_both(ORDER, ("x", 1), value)
            with self.assertRaises(InvalidLine):
                count_outcomes_with_both(ORDER, value, ("x", 1))
            with self.assertRaises(InvalidLine):
                count_outcomes_with_both(ORDER, value, value)
            with self.assertRaises(InvalidSaveOrder):
                count_outcomes_with_both([("x", 1), ("x", 1)], value, value)


class CommonTest(OrderTest):
    """[57]"""

    def test_example(self):
        self.assertEqual(lines_in_all_outcomes(ORDER), {"a": [(2, 2)]})

    def test_small_orders(self):
        for order in SMALL_ORDERS:
            outcomes = model_outcomes(order)
            common = [line for line in saved_lines(order) if all(line in lines for lines in outcomes)]
            self.assertEqual(lines_in_all_outcomes(order), line_set_of(common))
            for at in range(len(order) - 1):
                start = sum(count for _, count in order[:at])
                segment = saved_lines(order)[start:start + order[at][1]]
                self.assertTrue(any(not set(segment) & set(lines) for lines in outcomes))

    def test_large_counts(self):
        self.assertEqual(lines_in_all_outcomes([("a", MOST)]), {"a": [(1, MOST)]})
        self.assertEqual(lines_in_all_outcomes([("a", 5), ("b", MOST), ("a", MOST - 5)]),
                         {"a": [(6, MOST)]})
        self.assertEqual(lines_in_all_outcomes([("a", 2), ("b", 1)] * 100), {"b": [(100, 100)]})


class PropertyTest(OrderTest):
    """[58]"""

    def test_every_outcome_can_be_final(self):
        for order in SMALL_ORDERS:
            counts = line_counts_of(order)
            for lines in model_outcomes(order):
                self.assertIs(can_be_final(counts, compress(lines)), True)

    def test_outcomes_of_random_orders_can_be_final(self):
        chance = random.Random(58)
        for _ in range(100):
            order = random_order(chance, 60, chance.choice([1, 5, MOST // 100]))
            counts = line_counts_of(order)
            for _ in range(3):
                content = nth_outcome(order, chance.randrange(count_outcomes(order)))
                self.assertIs(is_content(counts, content), True)
                self.assertIs(can_be_final(counts, content), True)
            self.assertIs(can_be_final(counts, shortest_outcome(order)), True)

    def test_every_final_content_is_an_outcome(self):
        chance = random.Random(59)
        for _ in range(200):
            counts = {name: chance.choice([0, 1, 4, MOST]) for name in chance.sample("abcdef", 4)}
            content = random_final(chance, counts, 8)
            if not content:
                continue
            order = []
            for writer, first, last, _ in save_log(counts, schedule_to_final(counts, content)):
                count = last - first + 1
                if order and order[-1][0] == writer:
                    count += order.pop()[1]
                order.append((writer, count))
            self.assertEqual(line_counts_of(order), {writer: count for writer, count in counts.items()
                                                     if count})
            self.assertIs(is_outcome(order, content), True)
            self.assertEqual(nth_outcome(order, outcome_index(order, content)), content)

    def test_all_orders_together(self):
        for counts in ({"a": 2, "b": 2}, {"a": 3, "b": 1}, {"a": 1, "b": 1, "c": 1},
                       {"a": 2, "b": 1, "c": 1}):
            _, finals = search_contents(counts)
            lines = [writer for writer in counts for _ in range(counts[writer])]
            found = set()
            for sequence in set(itertools.permutations(lines)):
                order = [(writer, len(list(group))) for writer, group in itertools.groupby(sequence)]
                for index in range(count_outcomes(order)):
                    found.add(tuple(expand(nth_outcome(order, index))))
            self.assertEqual(found, finals)


if __name__ == "__main__":
    unittest.main()
