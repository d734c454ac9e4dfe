"""Points 45 to 51: final contents with atomic lines."""

import itertools
import random
import unittest

from lastcopy.atomic import (
    atomic_final_obstruction, can_be_final_atomic, count_atomic_sets, is_atomic_final_obstruction,
    is_atomic_schedule, min_non_atomic_lines, required_non_atomic_lines, schedule_to_final_atomic,
)
from lastcopy.check_final import is_final_obstruction, is_schedule_to_final
from lastcopy.contents import is_line_set
from lastcopy.errors import (
    InvalidAtomicSet, InvalidContent, InvalidLineCounts, TooManyResults,
)
from lastcopy.final import can_be_final, final_obstruction
from lastcopy.overwrites import gaps, min_overwrites
from lastcopy.survivors import lost_lines
from tests.support import (
    Prickly, all_contents, all_line_sets, compress, expand, line_set_of, model_after, odd_values,
    random_content, random_final, random_schedule, search_atomic,
)

MOST = 10 ** 30
COUNTS = {"a": 3, "b": 3}
CONTENT = [("a", 1, 1), ("b", 2, 2), ("a", 3, 3)]
TAKE_CONTENT = [can_be_final_atomic, atomic_final_obstruction, schedule_to_final_atomic,
                required_non_atomic_lines]
SMALL_COUNTS = [
    {"a": 0}, {"a": 2}, {"a": 0, "b": 0}, {"a": 1, "b": 1}, {"b": 2, "a": 1, "n": 0},
    {"a": 2, "b": 2}, {"a": 3, "b": 1}, {"c": 1, "a": 1, "b": 1}, {"a": 2, "b": 1, "c": 1},
    {"a": 3, "b": 2},
]


def set_of_all(counts):
    return {writer: [(1, count)] for writer, count in counts.items() if count}


def lines_of_set(line_set):
    return [(writer, number) for writer in sorted(line_set) for first, last in line_set[writer]
            for number in range(first, last + 1)]


def covering_lines(content, gap):
    return expand(content[gap[3]:gap[4] + 1])


def random_lines(chance, counts):
    lines = [(writer, number) for writer in counts for number in range(1, counts[writer] + 1)]
    share = chance.random()
    return [line for line in lines if chance.random() < share]


class AtomicTest(unittest.TestCase):
    def check_schedule(self, counts, atomic, content):
        """The schedule of a content of small counts, line by line."""
        schedule = schedule_to_final_atomic(counts, atomic, content)
        self.assertIs(type(schedule), list)
        model = model_after(counts, schedule)
        self.assertEqual((model.saved, model.copies), (counts, {}))
        self.assertEqual(compress(model.page), list(content))
        self.assertFalse(set(model.overwriting) & set(lines_of_set(atomic)))
        self.assertIs(is_atomic_schedule(counts, atomic, schedule), True)

    def check_large_schedule(self, counts, atomic, content):
        schedule = schedule_to_final_atomic(counts, atomic, content)
        self.assertIs(is_schedule_to_final(counts, schedule, content), True)
        self.assertIs(is_atomic_schedule(counts, atomic, schedule), True)

    def check_too_many(self, total, *arguments):
        with self.assertRaises(TooManyResults) as caught:
            count_atomic_sets(*arguments)
        self.assertEqual(caught.exception.total, total)


class ScheduleTest(AtomicTest):
    """[45]"""

    def test_examples(self):
        counts = {"a": 1, "b": 1}
        atomic = {"a": [(1, 1)]}
        self.assertIs(is_atomic_schedule(counts, atomic, [("read", "a"), ("append", "b", 1),
                                                          ("save", "a")]), False)
        self.assertIs(is_atomic_schedule(counts, atomic, [("read", "b"), ("append", "a", 1),
                                                          ("save", "b")]), True)
        with self.assertRaises(InvalidAtomicSet):
            is_atomic_schedule({"a": 1}, {"a": [(1, 2)]}, [])

    def test_cases(self):
        counts = {"a": 3, "b": 3}
        late = [("append", "a", 1), ("read", "a"), ("read", "b"), ("save", "b"), ("save", "a"),
                ("append", "a", 1)]
        cases = [
            ([], set_of_all(counts), True),
            ([("read", "a")], set_of_all(counts), True),
            ([("read", "a"), ("append", "b", 2)], set_of_all(counts), True),
            ([("read", "a"), ("save", "a")], set_of_all(counts), True),
            ([("read", "a"), ("read", "b"), ("save", "a")], set_of_all(counts), True),
            ([("read", "a"), ("read", "b"), ("save", "b"), ("save", "a")], {"a": [(1, 1)]}, False),
            ([("read", "a"), ("read", "b"), ("save", "b"), ("save", "a")], {"b": [(1, 3)]}, True),
            (late, {"a": [(2, 2)]}, False), (late, {"a": [(1, 3)]}, False),
            (late, {"a": [(2, 3)]}, False), (late, {"a": [(1, 2)]}, False),
            (late, {"a": [(1, 1), (3, 3)], "b": [(1, 3)]}, True), (late, {}, True),
            (late, {"a": [], "b": []}, True), (late, {"a": [(1, 1)]}, True),
            (late, {"a": [(3, 3)]}, True),
            ([("append", "a", 3), ("append", "b", 3)], set_of_all(counts), True),
        ]
        for schedule, atomic, expected in cases:
            self.assertIs(is_atomic_schedule(counts, atomic, schedule), expected, schedule)

    def test_unsaved_lines_do_not_matter(self):
        schedule = [("read", "a"), ("append", "b", 1)]
        self.assertIs(is_atomic_schedule({"a": 2, "b": 1}, {"a": [(1, 2)]}, schedule), True)
        self.assertIs(is_atomic_schedule({"a": 2, "b": 1}, {"a": [(2, 2)]},
                                         schedule + [("save", "a")]), True)
        self.assertIs(is_atomic_schedule({"a": 2, "b": 1}, {"a": [(1, 2)]},
                                         schedule + [("save", "a")]), False)

    def test_random_schedules(self):
        chance = random.Random(45)
        wrong = 0
        for _ in range(1000):
            counts = {name: chance.randint(0, 4) for name in "abc"}
            schedule = random_schedule(chance, counts, chance.randint(0, 14))
            chosen = random_lines(chance, counts)
            expected = not set(model_after(counts, schedule).overwriting) & set(chosen)
            wrong += not expected
            self.assertIs(is_atomic_schedule(counts, line_set_of(chosen), schedule), expected)
        self.assertGreater(wrong, 100)

    def test_large_counts(self):
        counts = {"a": MOST, "b": MOST}
        schedule = [("append", "a", MOST - 1), ("read", "a"), ("append", "b", MOST), ("save", "a")]
        self.assertIs(is_atomic_schedule(counts, {"a": [(1, MOST - 1)], "b": [(1, MOST)]}, schedule),
                      True)
        self.assertIs(is_atomic_schedule(counts, {"a": [(MOST, MOST)]}, schedule), False)

    def test_values_that_are_no_schedules(self):
        counts = {"a": 1, "b": 1}
        wrong = [(), {}, "read a", (("append", "a", 1),), [("append", "a", 2)], [("save", "a")],
                 [["append", "a", 1]], [("append", "a", True)], [("append", "c", 1)], [None],
                 [("read", "a"), ("append", "a", 1)], [("append", "a", 1), Prickly()]]
        for value in wrong + odd_values():
            for atomic in ({}, set_of_all(counts), {"a": []}):
                self.assertIs(is_atomic_schedule(counts, atomic, value), False)

    def test_errors(self):
        for value in odd_values() + [[]]:
            with self.assertRaises(InvalidLineCounts):
                is_atomic_schedule({"a": True}, None, value)
            for atomic in ([], {"b": []}, {"a": [(1, 2)]}, {"a": [(True, 1)]}, None):
                with self.assertRaises(InvalidAtomicSet):
                    is_atomic_schedule({"a": 1}, atomic, value)


class FinalTest(AtomicTest):
    """[46], [48]"""

    def test_examples(self):
        counts = {"a": 1, "b": 1}
        content = [("a", 1, 1)]
        self.assertEqual(atomic_final_obstruction(counts, {"a": [(1, 1)]}, content),
                         ("atomic", ("b", 1, 1, 0, 0)))
        self.assertIs(can_be_final_atomic(counts, {"b": [(1, 1)]}, content), True)
        self.assertIs(schedule_to_final_atomic(counts, {"a": [(1, 1)]}, content) is None, True)

    def test_all_schedules_of_small_counts(self):
        for counts in SMALL_COUNTS:
            for chosen in all_line_sets(counts):
                atomic = line_set_of(chosen)
                finals = search_atomic(counts, chosen)
                for lines in all_contents(counts, min(4, sum(counts.values()))):
                    content = compress(lines)
                    expected = lines in finals
                    self.assertIs(can_be_final_atomic(counts, atomic, content), expected)
                    found = atomic_final_obstruction(counts, atomic, content)
                    self.assertIs(found is None, expected)
                    if expected:
                        self.check_schedule(counts, atomic, content)
                    else:
                        self.assertIsNone(schedule_to_final_atomic(counts, atomic, content))

    def test_first_obstruction(self):
        chance = random.Random(46)
        kinds = set()
        for _ in range(800):
            counts = {name: chance.randint(0, 5) for name in chance.sample("abcde", 3)}
            if not any(counts.values()):
                continue
            content = random_final(chance, counts, 6)
            if chance.random() < 0.3:
                content = random_content(chance, counts, 4)
            chosen = random_lines(chance, counts)
            atomic = line_set_of(chosen)
            expected = final_obstruction(counts, content)
            if expected is None:
                blocked = [gap for gap in gaps(counts, content)
                           if set(covering_lines(content, gap)) <= set(chosen)]
                expected = ("atomic", blocked[0]) if blocked else None
            kinds.add(expected and expected[0])
            for given in (content, tuple(content)):
                self.assertEqual(atomic_final_obstruction(counts, atomic, given), expected)
                self.assertIs(can_be_final_atomic(counts, atomic, given), expected is None)
            if expected is None:
                self.check_schedule(counts, atomic, content)
            else:
                self.assertIsNone(schedule_to_final_atomic(counts, atomic, content))
        self.assertLessEqual({None, "atomic", "start", "end"}, kinds)

    def test_the_empty_set_and_the_set_of_all_lines(self):
        chance = random.Random(47)
        for _ in range(200):
            counts = {name: chance.choice([0, 1, 4, MOST]) for name in chance.sample("abcde", 3)}
            content = random_final(chance, counts, 6)
            self.assertIs(can_be_final_atomic(counts, {}, content), True)
            self.check_large_schedule(counts, {}, content)
            lost = sum(counts.values()) > sum(last - first + 1 for _, first, last in content)
            self.assertIs(can_be_final_atomic(counts, set_of_all(counts), content), not lost)
            if lost:
                self.assertEqual(atomic_final_obstruction(counts, set_of_all(counts), content),
                                 ("atomic", gaps(counts, content)[0]))
            else:
                self.check_large_schedule(counts, set_of_all(counts), content)

    def test_one_line_that_may_overwrite(self):
        counts = {"a": 9, "b": 9, "c": 4}
        content = [("a", 1, 9)]
        for number in range(1, 10):
            others = line_set_of([("a", other) for other in range(1, 10) if other != number])
            self.check_schedule(counts, others, content)
            self.check_schedule(counts, dict(others, b=[(1, 9)], c=[(1, 4)]), content)
        self.assertEqual(atomic_final_obstruction(counts, {"a": [(1, 9)]}, content),
                         ("atomic", ("b", 1, 9, 0, 0)))

    def test_no_lines_at_all(self):
        for counts in ({"a": 0}, {"a": 0, "b": 0}):
            self.assertIs(can_be_final_atomic(counts, {}, []), True)
            self.assertIsNone(atomic_final_obstruction(counts, {"a": []}, ()))
            self.assertEqual(schedule_to_final_atomic(counts, {}, []), [])
        self.assertEqual(atomic_final_obstruction({"a": 1}, {}, []), ("empty",))
        self.assertEqual(atomic_final_obstruction({"a": 1}, {"a": [(1, 1)]}, []), ("empty",))

    def test_large_counts(self):
        counts = {"a": MOST, "b": MOST, "c": 7}
        content = [("a", 1, MOST // 2), ("b", 5, MOST), ("a", MOST, MOST)]
        middle = MOST // 3
        cases = [
            ({"a": [(1, middle - 1), (middle + 1, MOST - 1)], "b": [(1, 8), (10, MOST)]}, None),
            ({"a": [(1, MOST // 2)]}, ("atomic", ("b", 1, 4, 0, 0))),
            ({"b": [(5, MOST)]}, ("atomic", ("a", MOST // 2 + 1, MOST - 1, 1, 1))),
            ({"b": [(5, MOST - 1)]}, None), ({"b": [(6, MOST)]}, None),
            ({"b": [(1, 5), (7, MOST)]}, None), ({"a": [(2, MOST)]}, None),
            ({"a": [(MOST, MOST)], "c": [(1, 7)]}, None),
            (set_of_all(counts), ("atomic", ("a", MOST // 2 + 1, MOST - 1, 1, 1))),
        ]
        for atomic, expected in cases:
            self.assertEqual(atomic_final_obstruction(counts, atomic, content), expected)
            if expected is None:
                self.check_large_schedule(counts, atomic, content)

    def test_many_runs(self):
        for many in (200, 201, 400):
            counts = {letter: 2 * many for letter in "abcdefghijkl"}
            content = [("abc"[at % 3], 1 if at == 0 else 2 * at, 1 if at == 0 else 2 * at)
                       for at in range(many)]
            content[-1] = (content[-1][0], content[-1][1], 2 * many)
            self.check_large_schedule(counts, {}, content)
            self.check_large_schedule(counts, {"a": [(3, 3)], "d": [(1, many)]}, content)
            self.assertIs(can_be_final_atomic(counts, set_of_all(counts), content), False)

    def test_41_intervals_and_more(self):
        for many in (40, 41, 300):
            counts = {"a": 2 * many, "b": 9}
            odd = [(2 * at - 1, 2 * at - 1) for at in range(1, many + 1)]
            content = [("a", 1, 2 * many)]
            self.check_schedule(counts, {"a": odd, "b": [(1, 9)]}, content)
            self.assertEqual(required_non_atomic_lines(counts, {"a": odd}, content), {})
            full = odd[:-1] + [(2 * many - 1, 2 * many)]
            content = [("a", 1, 1), ("b", 1, 8), ("a", 2 * many, 2 * many), ("b", 9, 9)]
            self.assertEqual(atomic_final_obstruction(counts, {"a": full, "b": [(1, 9)]}, content),
                             ("atomic", ("a", 2, 2 * many - 1, 1, 1)))
            self.assertEqual(required_non_atomic_lines(counts, {"a": full, "b": [(2, 9)]}, content),
                             {"b": [(1, 1)]})

    def test_order_of_errors(self):
        for function in TAKE_CONTENT:
            with self.assertRaises(InvalidLineCounts):
                function({"a": -1}, None, None)
            with self.assertRaises(InvalidAtomicSet):
                function({"a": 1}, {"b": []}, [("a", 1, True)])
            with self.assertRaises(InvalidContent):
                function({"a": 1}, {"a": [(1, 1)]}, [("a", 1, True)])


class CheckTest(AtomicTest):
    """[47]"""

    def test_example(self):
        self.assertIs(is_atomic_final_obstruction({"a": 1, "b": 1}, {"a": [(1, 1)]}, [("a", 1, 1)],
                                                  ("end",)), False)
        self.assertIs(is_atomic_final_obstruction({"a": 1, "b": 1}, {"a": [(1, 1)]}, [("a", 1, 1)],
                                                  ("atomic", ("b", 1, 1, 0, 0))), True)

    def test_every_gap(self):
        chance = random.Random(48)
        for _ in range(500):
            counts = {name: chance.randint(0, 4) for name in chance.sample("abcde", 3)}
            content = random_final(chance, counts, 6)
            chosen = random_lines(chance, counts)
            atomic = line_set_of(chosen)
            for gap in gaps(counts, content):
                expected = set(covering_lines(content, gap)) <= set(chosen)
                for given in (content, tuple(content)):
                    self.assertIs(is_atomic_final_obstruction(counts, atomic, given,
                                                              ("atomic", gap)), expected)
            for value in (("start",), ("end",), ("empty",), ("split", 1), ("decreasing", 1)):
                self.assertIs(is_atomic_final_obstruction(counts, atomic, content, value), False)
            found = atomic_final_obstruction(counts, atomic, content)
            self.assertIs(is_atomic_final_obstruction(counts, atomic, content, found),
                          found is not None)

    def test_contents_that_can_never_be_final(self):
        chance = random.Random(49)
        counts = {"a": 4, "b": 3}
        for _ in range(300):
            content = random_content(chance, counts, 4)
            if can_be_final(counts, content):
                continue
            atomic = line_set_of(random_lines(chance, counts))
            values = [(name,) for name in ("empty", "start", "end", "split", "atomic")]
            values += [(name, at) for name in ("decreasing", "split", "end") for at in range(-1, 6)]
            values += [("atomic", ("b", 1, 3, 0, 0)), ("atomic", ("a", 1, 1, 0, 0)), None]
            for value in values:
                self.assertIs(is_atomic_final_obstruction(counts, atomic, content, value),
                              is_final_obstruction(counts, content, value))
            found = atomic_final_obstruction(counts, atomic, content)
            self.assertIs(is_atomic_final_obstruction(counts, atomic, content, found), True)

    def test_changed_in_one_place(self):
        counts = {"a": 3, "b": 3}
        content = [("b", 1, 1), ("a", 1, 3), ("b", 3, 3)]
        atomic = {"a": [(1, 3)]}
        gap = ("b", 2, 2, 1, 1)
        good = ("atomic", gap)
        self.assertIs(is_atomic_final_obstruction(counts, atomic, content, good), True)
        wrong = [list(good), good[:1], good + (1,), (good,), [good], gap, ("atomic",) + gap,
                 ("atomic", list(gap)), ("atomic", gap[:4]), ("atomic", gap + (1,)),
                 ("atomic", [gap]), ("atomic", (gap,)), ("Atomic", gap), ("gap", gap), (None, gap),
                 (b"atomic", gap), (Prickly(), gap), ("atomic", None), ("atomic", Prickly()),
                 (["atomic"], gap), {"atomic": gap}, "atomic", None]
        for at in range(5):
            changed = [None, Prickly(), [gap[at]], (gap[at],), "c", ""]
            if at == 0:
                changed += ["a", "B", b"b"]
            else:
                changed += [0, 3, gap[at] + 1, gap[at] - 1, float(gap[at]), str(gap[at]), -1, True,
                            False, MOST]
            wrong += [("atomic", gap[:at] + (part,) + gap[at + 1:]) for part in changed]
        for value in wrong + odd_values():
            self.assertIs(is_atomic_final_obstruction(counts, atomic, content, value), False)

    def test_booleans_are_no_integers(self):
        counts = {"a": 1, "b": 1}
        content = [("a", 1, 1)]
        atomic = {"a": [(1, 1)]}
        for gap in (("b", True, 1, 0, 0), ("b", 1, True, 0, 0), ("b", 1, 1, False, 0),
                    ("b", 1, 1, 0, False), ["b", 1, 1, 0, 0]):
            self.assertIs(is_atomic_final_obstruction(counts, atomic, content, ("atomic", gap)), False)

    def test_no_obstruction(self):
        for value in odd_values() + [("atomic", ("b", 1, 1, 0, 0)), ("empty",)]:
            self.assertIs(is_atomic_final_obstruction({"a": 1, "b": 1}, {"b": [(1, 1)]},
                                                      [("a", 1, 1)], value), False)
            self.assertIs(is_atomic_final_obstruction({"a": 0}, {}, [], value), False)

    def test_order_of_errors(self):
        for value in odd_values() + [("start",)]:
            with self.assertRaises(InvalidLineCounts):
                is_atomic_final_obstruction({"a": -1}, None, None, value)
            with self.assertRaises(InvalidAtomicSet):
                is_atomic_final_obstruction({"a": 1}, {"b": []}, [("a", 1, True)], value)
            with self.assertRaises(InvalidContent):
                is_atomic_final_obstruction({"a": 1}, {"a": [(1, 1)]}, [("a", 1, True)], value)


class SmallestSetTest(AtomicTest):
    """[49]"""

    def check_smallest(self, counts, content):
        found = min_non_atomic_lines(counts, content)
        self.assertIs(is_line_set(counts, found), True)
        self.assertNotIn([], found.values())
        lines = lines_of_set(found)
        self.assertEqual(len(lines), min_overwrites(counts, content))
        others = [(writer, number) for writer in counts for number in range(1, counts[writer] + 1)
                  if (writer, number) not in lines]
        self.assertIs(can_be_final_atomic(counts, line_set_of(others), content), True)

    def test_example(self):
        self.assertEqual(min_non_atomic_lines(COUNTS, CONTENT),
                         {"a": [(1, 1), (3, 3)], "b": [(2, 2)]})

    def test_all_sets_of_small_counts(self):
        for counts in SMALL_COUNTS:
            sets = all_line_sets(counts)
            finals = {chosen: search_atomic(counts, chosen) for chosen in sets}
            total = sum(counts.values())
            for lines in finals[()]:
                content = compress(lines)
                self.check_smallest(counts, content)
                most = max(len(chosen) for chosen in sets if lines in finals[chosen])
                self.assertEqual(len(lines_of_set(min_non_atomic_lines(counts, content))),
                                 total - most)

    def test_random_contents(self):
        chance = random.Random(50)
        for _ in range(200):
            counts = {name: chance.randint(0, 5) for name in chance.sample("abcde", 3)}
            self.check_smallest(counts, random_final(chance, counts, 7))

    def test_large_counts(self):
        chance = random.Random(51)
        for _ in range(50):
            counts = {name: chance.choice([1, 9, MOST]) for name in "abcdef"}
            content = random_final(chance, counts, 12)
            found = min_non_atomic_lines(counts, content)
            self.assertEqual(len(lines_of_set(found)), min_overwrites(counts, content))
            others = lost_lines(counts, found)
            self.assertIs(can_be_final_atomic(counts, others, content), True)
            self.check_large_schedule(counts, others, content)

    def test_neighbouring_lines_are_one_interval(self):
        counts = {"a": 2, "b": 3, "c": 9}
        content = [("a", 1, 1), ("b", 2, 2), ("a", 2, 2)]
        self.assertEqual(gaps(counts, content), [("b", 1, 1, 0, 0), ("b", 3, 3, 2, 2),
                                                 ("c", 1, 9, 0, 2)])
        self.assertEqual(min_non_atomic_lines(counts, content), {"a": [(1, 2)]})

    def test_nothing_lost(self):
        self.assertEqual(min_non_atomic_lines({"a": 0}, []), {})
        self.assertEqual(min_non_atomic_lines({"a": MOST, "b": 1}, [("b", 1, 1), ("a", 1, MOST)]), {})

    def test_contents_that_cannot_be_final(self):
        for counts, content in (({"a": 1}, []), ({"a": 2}, [("a", 2, 2)]), ({"a": 2}, [("a", 1, 1)]),
                                (COUNTS, [("a", 1, 1), ("a", 3, 3)])):
            self.assertIsNone(min_non_atomic_lines(counts, content))

    def test_errors(self):
        for function in (min_non_atomic_lines, count_atomic_sets):
            with self.assertRaises(InvalidLineCounts):
                function({"a": -1}, None)
            with self.assertRaises(InvalidContent):
                function({"a": 1}, [("a", 1, True)])


class RequiredTest(AtomicTest):
    """[50]"""

    def test_examples(self):
        self.assertEqual(required_non_atomic_lines(COUNTS, {}, CONTENT),
                         {"a": [(1, 1), (3, 3)], "b": [(2, 2)]})

    def test_all_sets_of_small_counts(self):
        for counts in SMALL_COUNTS:
            sets = all_line_sets(counts)
            finals = {chosen: search_atomic(counts, chosen) for chosen in sets}
            for lines in finals[()]:
                content = compress(lines)
                for chosen in sets:
                    found = required_non_atomic_lines(counts, line_set_of(chosen), content)
                    if lines not in finals[chosen]:
                        self.assertIsNone(found)
                        continue
                    every = [(writer, number) for writer in counts
                             for number in range(1, counts[writer] + 1)]
                    expected = [line for line in every if line not in chosen
                                and lines not in finals[tuple(sorted(chosen + (line,)))]]
                    self.assertEqual(found, line_set_of(expected))
                    self.assertLessEqual(set(expected), set(lines))

    def test_random_contents(self):
        chance = random.Random(52)
        for _ in range(300):
            counts = {name: chance.randint(0, 5) for name in chance.sample("abcde", 3)}
            content = random_final(chance, counts, 7)
            chosen = random_lines(chance, counts)
            found = required_non_atomic_lines(counts, line_set_of(chosen), content)
            if not can_be_final_atomic(counts, line_set_of(chosen), content):
                self.assertIsNone(found)
                continue
            every = [(writer, number) for writer in counts for number in range(1, counts[writer] + 1)]
            expected = [line for line in every if line not in chosen and not can_be_final_atomic(
                counts, line_set_of(chosen + [line]), content)]
            self.assertEqual(found, line_set_of(expected))

    def test_large_counts(self):
        counts = {"a": MOST, "b": MOST}
        content = [("a", 1, MOST)]
        self.assertEqual(required_non_atomic_lines(counts, {}, content), {})
        self.assertEqual(required_non_atomic_lines(counts, {"a": [(1, MOST - 2)]}, content), {})
        self.assertEqual(required_non_atomic_lines(counts, {"a": [(1, MOST - 1)]}, content),
                         {"a": [(MOST, MOST)]})
        self.assertEqual(required_non_atomic_lines(counts, {"a": [(1, 6), (8, MOST)]}, content),
                         {"a": [(7, 7)]})
        self.assertIsNone(required_non_atomic_lines(counts, {"a": [(1, MOST)]}, content))

    def test_contents_that_cannot_be_final(self):
        for counts, content in (({"a": 1}, []), ({"a": 2}, [("a", 2, 2)]), ({"a": 2}, [("a", 1, 1)])):
            self.assertIsNone(required_non_atomic_lines(counts, {}, content))
        self.assertEqual(required_non_atomic_lines({"a": 0}, {}, []), {})

    def test_every_subset(self):
        chance = random.Random(53)
        for _ in range(300):
            counts = {name: chance.randint(0, 4) for name in chance.sample("abcde", 3)}
            content = random_final(chance, counts, 7)
            chosen = random_lines(chance, counts)
            if can_be_final_atomic(counts, line_set_of(chosen), content):
                fewer = chance.sample(chosen, chance.randint(0, len(chosen)))
                self.assertIs(can_be_final_atomic(counts, line_set_of(fewer), content), True)


class CountTest(AtomicTest):
    """[51]"""

    def test_examples(self):
        self.assertEqual(count_atomic_sets({"a": 1, "b": 1}, [("a", 1, 1)]), 2)
        self.check_too_many(201, {"a": 150, "b": 51}, [])

    def test_all_sets_of_small_counts(self):
        for counts in SMALL_COUNTS:
            sets = all_line_sets(counts)
            finals = {chosen: search_atomic(counts, chosen) for chosen in sets}
            for lines in all_contents(counts, min(4, sum(counts.values()))):
                expected = sum(lines in finals[chosen] for chosen in sets)
                self.assertEqual(count_atomic_sets(counts, compress(lines)), expected)

    def test_sum_over_sets_of_runs(self):
        chance = random.Random(54)
        for _ in range(150):
            counts = {name: chance.randint(0, 40) for name in chance.sample("abcdef", 4)}
            content = random_final(chance, counts, 8)
            found = gaps(counts, content)
            sizes = [last - first + 1 for _, first, last in content]
            total = 0
            # A run with marks[at] has a line that is not atomic, any other run has none.
            for marks in itertools.product((False, True), repeat=len(content)):
                if all(any(marks[gap[3]:gap[4] + 1]) for gap in found):
                    product = 1
                    for mark, size in zip(marks, sizes):
                        product *= 2 ** size - 1 if mark else 1
                    total += product
            total *= 2 ** (sum(counts.values()) - sum(sizes))
            self.assertEqual(count_atomic_sets(counts, content), total)

    def test_nothing_lost(self):
        self.assertEqual(count_atomic_sets({"a": 0}, []), 1)
        self.assertEqual(count_atomic_sets({"a": 200}, [("a", 1, 200)]), 2 ** 200)
        self.assertEqual(count_atomic_sets({"a": 3, "b": 197}, [("b", 1, 197), ("a", 1, 3)]), 2 ** 200)

    def test_many_runs(self):
        content = [("ab"[at % 2], at // 2 + 1, at // 2 + 1) for at in range(200)]
        self.assertEqual(count_atomic_sets({"a": 100, "b": 100}, content), 2 ** 200)
        content = [("ab"[at % 2], at // 2 + 1, at // 2 + 1) for at in range(198)]
        self.assertEqual(count_atomic_sets({"a": 99, "b": 99, "c": 2}, content),
                         (2 ** 198 - 1) * 2 ** 2)

    def test_limit(self):
        self.assertEqual(count_atomic_sets({"a": 150, "b": 50}, [("a", 1, 150)]),
                         (2 ** 150 - 1) * 2 ** 50)
        self.assertEqual(count_atomic_sets({"a": 150, "b": 50}, []), 0)
        for counts, total in (({"a": 201}, 201), ({"a": 151, "b": 50}, 201), ({"a": MOST}, MOST),
                              ({letter: MOST for letter in "abcdefghijkl"}, 12 * MOST)):
            self.check_too_many(total, counts, [])
            self.check_too_many(total, counts, [("a", 1, counts["a"])])
            self.check_too_many(total, counts, [("a", 2, 2)])
            with self.assertRaises(InvalidContent):
                count_atomic_sets(counts, [("a", 1, counts["a"] + 1)])

    def test_contents_that_cannot_be_final(self):
        for counts, content in (({"a": 1}, []), ({"a": 2}, [("a", 2, 2)]), ({"a": 2}, [("a", 1, 1)]),
                                (COUNTS, [("a", 1, 1), ("a", 3, 3)])):
            self.assertEqual(count_atomic_sets(counts, content), 0)


if __name__ == "__main__":
    unittest.main()
