"""Points 13 to 17: schedules, states, bases, overwrites and save logs."""

import random
import unittest

from lastcopy.errors import InvalidAction, InvalidLine
from lastcopy.schedules import (
    content_at_save, count_overwrites, find_save, is_schedule, page_history, save_log,
    state_after, surviving_and_lost,
)
from tests.support import (
    Prickly, compress, impossible_position, line_set_of, model_after, odd_values, random_schedule,
)

MOST = 10 ** 30
M = {"a": 2, "b": 1}
Z = [("read", "a"), ("append", "b", 1), ("save", "a")]
N = {"a": 3, "b": 1}
S = [("append", "a", 2), ("read", "b"), ("append", "a", 1), ("save", "b")]

TAKERS = [
    state_after, page_history, count_overwrites, surviving_and_lost, save_log,
    lambda counts, schedule: find_save(counts, schedule, ("a", 1)),
    lambda counts, schedule: content_at_save(counts, schedule, ("a", 1)),
]

# For the line counts {"a": 2, "b": 1, "n": 0}, with b's line saved already.
NOT_ACTIONS = [
    (), ("read",), ("save",), ("append",), ("append", "a"), ("read", "a", 1), ("save", "a", 1),
    ("append", "a", 1, 1), ("append", "a", 0), ("append", "a", -1), ("append", "a", True),
    ("append", "a", False), ("append", "a", 1.0), ("append", "a", "1"), ("append", "a", None),
    ("append", "a", [1]), ("append", "a", Prickly()), ["read", "a"], ["append", "a", 1], "read",
    "read a", ("Read", "a"), ("leave", "a"), ("reada",), (None, "a"), (["read"], "a"),
    (Prickly(), "a"), (Prickly(), "a", 1), ("read", Prickly()), ("read", ["a"]), ("read", "c"),
    ("append", "c", 1), ("read", "A"), ("read", ""), ("read", None), ("read", b"a"),
    (b"read", "a"), ("a", "read"), {"read": "a"}, {"read", "a"}, (("read", "a"),),
    ("read", ("a",)), ("append", ("a", 1)), ("append", 1, "a"),
]
NOT_POSSIBLE = [
    ("save", "a"), ("save", "b"), ("read", "b"), ("append", "b", 1), ("append", "a", 3),
    ("append", "a", MOST), ("append", "a", 10 ** 40), ("read", "n"), ("append", "n", 1),
    ("save", "n"),
]


class IsScheduleTest(unittest.TestCase):
    """[13]"""

    def check(self, counts, schedule, position):
        """The schedule is invalid at this position, for each function that takes one."""
        self.assertIs(is_schedule(counts, schedule), False)
        for number, taker in enumerate(TAKERS):
            with self.subTest(number), self.assertRaises(InvalidAction) as caught:
                taker(counts, schedule)
            self.assertEqual(caught.exception.position, position)

    def test_examples(self):
        self.assertIs(is_schedule({"a": 1}, [("read", "a"), ("append", "a", 1)]), False)
        self.check({"a": 1}, [("read", "a"), ("append", "a", 1)], 1)
        self.check({"a": 1}, "read a", None)

    def test_schedules(self):
        good = [
            ({"a": 0}, []), ({"a": 5}, []), ({"a": 1}, [("read", "a")]),
            ({"a": 1}, [("read", "a"), ("save", "a")]), ({"a": MOST}, [("append", "a", MOST)]),
            ({"abcdefgh": 2}, [("append", "abcdefgh", 1), ("read", "abcdefgh")]),
            ({"a": MOST}, [("append", "a", MOST - 1), ("read", "a"), ("save", "a")]),
            ({"a": MOST}, [("read", "a"), ("save", "a"), ("append", "a", MOST - 1)]),
            (M, Z), (N, S), (M, [("read", "a"), ("read", "b"), ("save", "b"), ("save", "a")]),
            ({"a": 1, "b": 1}, [("read", "a"), ("append", "b", 1)]),
        ]
        for counts, schedule in good:
            self.assertIs(is_schedule(counts, schedule), True)
            for taker in TAKERS:
                if counts.get("a", 0) > 0:
                    taker(counts, schedule)

    def test_not_a_list(self):
        for value in odd_values() + [(), tuple(Z), {}, {0: Z}, "", "read a", iter(Z)]:
            if type(value) is not list:
                self.check(M, value, None)

    def test_items(self):
        counts = {"a": 2, "b": 1, "n": 0}
        for item in NOT_ACTIONS + NOT_POSSIBLE + odd_values():
            self.check(counts, [("append", "b", 1), item], 1)
            self.check(counts, [("append", "b", 1), ("append", "a", 1), item, None], 2)
        for item in NOT_ACTIONS + odd_values():
            self.check(counts, [item], 0)
            self.check(counts, [item, ("save", "a")], 0)

    def test_turns(self):
        cases = [
            ({"a": 1}, [("save", "a")], 0),
            ({"a": 2}, [("read", "a"), ("read", "a")], 1),
            ({"a": 2}, [("read", "a"), ("append", "a", 1)], 1),
            ({"a": 2}, [("read", "a"), ("save", "a"), ("save", "a")], 2),
            ({"a": 1}, [("read", "a"), ("save", "a"), ("read", "a")], 2),
            ({"a": 1}, [("read", "a"), ("save", "a"), ("append", "a", 1)], 2),
            ({"a": 2}, [("append", "a", 3)], 0),
            ({"a": 2}, [("append", "a", 2), ("append", "a", 1)], 1),
            ({"a": 2}, [("append", "a", 2), ("read", "a")], 1),
            ({"a": 0}, [("read", "a")], 0),
            ({"a": 0}, [("append", "a", 1)], 0),
            ({"a": MOST}, [("append", "a", MOST), ("append", "a", 1)], 1),
            ({"a": MOST}, [("append", "a", MOST + 1)], 0),
            ({"a": 1, "b": 1}, [("read", "a"), ("save", "b")], 1),
            ({"a": 2, "b": 1}, [("append", "a", 1), ("read", "b"), ("save", "b"), ("save", "a")], 3),
        ]
        for counts, schedule, position in cases:
            self.check(counts, schedule, position)

    def test_random_actions_against_the_model(self):
        chance = random.Random(13)
        counts = {"a": 2, "b": 2}
        actions = [(word, writer) for word in ("read", "save") for writer in "ab"]
        actions += [("append", writer, count) for writer in "ab" for count in (1, 2, 3)]
        for _ in range(500):
            schedule = [chance.choice(actions) for _ in range(chance.randint(0, 6))]
            position = impossible_position(counts, schedule)
            if position is None:
                self.assertIs(is_schedule(counts, schedule), True)
            else:
                self.check(counts, schedule, position)


class StateTest(unittest.TestCase):
    """[14]"""

    def test_examples(self):
        self.assertEqual(state_after(M, Z), ({"a": 1, "b": 1}, [("a", 1, 1)], {}))
        self.assertEqual(page_history(M, Z), [[], [("b", 1, 1)], [("a", 1, 1)]])

    def test_empty_schedule(self):
        self.assertEqual(state_after({"a": 0, "b": MOST}, []), ({"a": 0, "b": 0}, [], {}))
        self.assertEqual(page_history({"a": 0}, []), [[]])

    def test_copies(self):
        schedule = [("read", "a"), ("append", "b", 1), ("read", "c")]
        self.assertEqual(state_after({"a": 1, "b": 2, "c": 1}, schedule),
                         ({"a": 0, "b": 1, "c": 0}, [("b", 1, 1)], {"a": [], "c": [("b", 1, 1)]}))
        self.assertEqual(page_history({"a": 1, "b": 2, "c": 1}, schedule), [[], [("b", 1, 1)]])

    def test_kinds(self):
        state = state_after(M, Z + [("read", "a")])
        self.assertEqual([type(part) for part in state], [dict, list, dict])
        self.assertEqual(type(state[2]["a"]), list)
        self.assertIs(type(state), tuple)

    def test_an_append_is_one_step_of_the_history(self):
        schedule = [("append", "a", 2), ("append", "a", MOST - 3), ("read", "a"), ("save", "a")]
        self.assertEqual(page_history({"a": MOST}, schedule),
                         [[], [("a", 1, 2)], [("a", 1, MOST - 1)], [("a", 1, MOST)]])

    def test_equal_contents_stay(self):
        schedule = [("read", "a"), ("read", "b"), ("save", "a"), ("save", "b")]
        self.assertEqual(page_history({"a": 1, "b": 1}, schedule),
                         [[], [("a", 1, 1)], [("b", 1, 1)]])


class SaveTest(unittest.TestCase):
    """[15]"""

    def test_examples(self):
        self.assertEqual(find_save(N, S, ("b", 1)), (3, ("a", 2)))
        self.assertEqual(content_at_save(N, S, ("b", 1)), [("a", 1, 2), ("b", 1, 1)])

    def test_lines_of_an_append(self):
        self.assertEqual(find_save(N, S, ("a", 1)), (0, None))
        self.assertEqual(find_save(N, S, ("a", 2)), (0, ("a", 1)))
        self.assertEqual(find_save(N, S, ("a", 3)), (2, ("a", 2)))
        self.assertEqual(content_at_save(N, S, ("a", 1)), [("a", 1, 1)])
        self.assertEqual(content_at_save(N, S, ("a", 2)), [("a", 1, 2)])
        self.assertEqual(content_at_save(N, S, ("a", 3)), [("a", 1, 3)])

    def test_not_saved(self):
        for schedule in ([], [("read", "a")], [("append", "a", 2)]):
            for line in (("a", 3), ("b", 1)):
                self.assertIsNone(find_save(N, schedule, line))
                self.assertIsNone(content_at_save(N, schedule, line))

    def test_large(self):
        counts = {"a": MOST, "b": 2}
        schedule = [("append", "b", 1), ("append", "a", MOST), ("append", "b", 1)]
        self.assertEqual(find_save(counts, schedule, ("a", 1)), (1, ("b", 1)))
        self.assertEqual(find_save(counts, schedule, ("a", MOST)), (1, ("a", MOST - 1)))
        self.assertEqual(find_save(counts, schedule, ("b", 2)), (2, ("a", MOST)))
        self.assertEqual(content_at_save(counts, schedule, ("a", MOST - 1)),
                         [("b", 1, 1), ("a", 1, MOST - 1)])
        self.assertEqual(content_at_save(counts, schedule, ("b", 2)),
                         [("b", 1, 1), ("a", 1, MOST), ("b", 2, 2)])

    def test_line_of_other_line_counts(self):
        for line in [("a", 4), ("a", 0), ("c", 1), ("b", 2), ["a", 1], ("a", True)] + odd_values():
            for function in (find_save, content_at_save):
                with self.assertRaises(InvalidLine):
                    function(N, S, line)
                with self.assertRaises(InvalidAction):
                    function(N, S + [("save", "b")], line)


class OverwriteTest(unittest.TestCase):
    """[16]"""

    def test_examples(self):
        self.assertEqual(count_overwrites(N, S), 1)
        self.assertEqual(surviving_and_lost(N, S),
                         ({"a": [(1, 2)], "b": [(1, 1)]}, {"a": [(3, 3)]}))

    def test_overwrites(self):
        counts = {"a": 3, "b": 2, "c": 1}
        cases = [
            ([], 0), ([("read", "a"), ("save", "a")], 0),
            ([("read", "a"), ("read", "b"), ("save", "a")], 0),
            ([("read", "a"), ("read", "b"), ("save", "a"), ("save", "b")], 1),
            ([("read", "a"), ("append", "b", 2), ("save", "a")], 1),
            ([("append", "b", 2), ("read", "a"), ("save", "a")], 0),
            ([("read", "a"), ("read", "b"), ("read", "c"), ("save", "a"), ("save", "b"),
              ("save", "c")], 2),
            ([("read", "c"), ("append", "a", 3)], 0),
            ([("read", "c"), ("append", "a", 1), ("append", "a", 1), ("save", "c"),
              ("append", "a", 1)], 1),
        ]
        for schedule, expected in cases:
            self.assertEqual(count_overwrites(counts, schedule), expected)

    def test_line_sets(self):
        counts = {"a": 5, "b": 5, "c": 1}
        self.assertEqual(surviving_and_lost(counts, []), ({}, {}))
        self.assertEqual(surviving_and_lost(counts, [("append", "a", 5)]), ({"a": [(1, 5)]}, {}))
        joined = [("append", "a", 2), ("append", "b", 1), ("append", "a", 3)]
        self.assertEqual(surviving_and_lost(counts, joined), ({"a": [(1, 5)], "b": [(1, 1)]}, {}))
        holes = [("append", "a", 1), ("read", "b"), ("append", "a", 1), ("save", "b"),
                 ("append", "a", 1), ("read", "b"), ("append", "a", 1), ("save", "b"),
                 ("append", "a", 1)]
        self.assertEqual(surviving_and_lost(counts, holes),
                         ({"a": [(1, 1), (3, 3), (5, 5)], "b": [(1, 2)]}, {"a": [(2, 2), (4, 4)]}))
        self.assertEqual(surviving_and_lost(counts, [("read", "c"), ("append", "a", 2),
                                                     ("append", "b", 5), ("save", "c")]),
                         ({"c": [(1, 1)]}, {"a": [(1, 2)], "b": [(1, 5)]}))

    def test_joined_behind_a_hole(self):
        counts = {"a": 7, "b": 4}
        schedule = [("append", "a", 1), ("read", "b"), ("append", "a", 1), ("save", "b"),
                    ("append", "a", 1), ("append", "b", 1), ("append", "a", 2), ("read", "b"),
                    ("append", "a", 1), ("save", "b"), ("append", "a", 1)]
        self.assertEqual(surviving_and_lost(counts, schedule),
                         ({"a": [(1, 1), (3, 5), (7, 7)], "b": [(1, 3)]}, {"a": [(2, 2), (6, 6)]}))

    def test_large(self):
        counts = {"a": MOST, "b": 1}
        schedule = [("append", "a", 1), ("read", "b"), ("append", "a", MOST - 1), ("save", "b")]
        self.assertEqual(surviving_and_lost(counts, schedule),
                         ({"a": [(1, 1)], "b": [(1, 1)]}, {"a": [(2, MOST)]}))


class LogTest(unittest.TestCase):
    """[17]"""

    def test_example(self):
        self.assertEqual(save_log(N, S), [("a", 1, 3, None), ("b", 1, 1, ("a", 2))])

    def test_merging(self):
        counts = {"a": 4, "b": 2}
        cases = [
            ([], []),
            ([("read", "a")], []),
            ([("append", "a", 1), ("read", "a"), ("save", "a"), ("append", "a", 2)],
             [("a", 1, 4, None)]),
            ([("append", "a", 1), ("append", "b", 1), ("append", "a", 1)],
             [("a", 1, 1, None), ("b", 1, 1, ("a", 1)), ("a", 2, 2, ("b", 1))]),
            ([("append", "a", 1), ("read", "a"), ("append", "b", 1), ("save", "a")],
             [("a", 1, 1, None), ("b", 1, 1, ("a", 1)), ("a", 2, 2, ("a", 1))]),
            ([("read", "a"), ("append", "b", 2), ("save", "a"), ("append", "a", 3)],
             [("b", 1, 2, None), ("a", 1, 4, None)]),
            ([("read", "b"), ("append", "a", 1), ("read", "a"), ("save", "b"), ("read", "b"),
              ("save", "a"), ("save", "b")],
             [("a", 1, 1, None), ("b", 1, 1, None), ("a", 2, 2, ("a", 1)),
              ("b", 2, 2, ("b", 1))]),
        ]
        for schedule, expected in cases:
            self.assertEqual(save_log(counts, schedule), expected)

    def test_large(self):
        counts = {"a": MOST, "b": 1}
        schedule = [("append", "a", 1), ("append", "a", MOST - 2), ("read", "b"),
                    ("append", "a", 1), ("save", "b")]
        self.assertEqual(save_log(counts, schedule),
                         [("a", 1, MOST, None), ("b", 1, 1, ("a", MOST - 1))])


class ModelTest(unittest.TestCase):
    """[13] to [17] against a page that is kept line by line."""

    def check(self, counts, schedule):
        model = model_after(counts, schedule)
        self.assertIs(is_schedule(counts, schedule), True)
        copies = {writer: compress(copy) for writer, copy in model.copies.items()}
        self.assertEqual(state_after(counts, schedule), (model.saved, compress(model.page), copies))
        self.assertEqual(page_history(counts, schedule), [compress(page) for page in model.history])
        self.assertEqual(count_overwrites(counts, schedule), len(model.overwriting))
        self.assertEqual(save_log(counts, schedule), model.log())
        saved = [line for line, _, _, _ in model.saves]
        lost = [line for line in saved if line not in model.page]
        self.assertEqual(surviving_and_lost(counts, schedule),
                         (line_set_of(model.page), line_set_of(lost)))
        for writer, count in counts.items():
            for number in range(1, count + 1):
                line = (writer, number)
                found = None
                content = None
                for saved_line, index, base, page in model.saves:
                    if saved_line == line:
                        found = (index, base)
                        content = compress(page)
                self.assertEqual(find_save(counts, schedule, line), found)
                self.assertEqual(content_at_save(counts, schedule, line), content)

    def test_random_schedules(self):
        chance = random.Random(17)
        for _ in range(400):
            names = chance.sample(["a", "b", "c", "longname", "z"], chance.randint(1, 4))
            counts = {name: chance.randint(0, 5) for name in names}
            self.check(counts, random_schedule(chance, counts, chance.randint(0, 20)))

    def test_twelve_writers(self):
        chance = random.Random(18)
        counts = {letter * 8: 6 for letter in "abcdefghijkl"}
        for _ in range(10):
            self.check(counts, random_schedule(chance, counts, 60))

    def test_more_than_400_actions(self):
        chance = random.Random(19)
        counts = {"a": 300, "b": 300}
        schedule = [(word, writer) for _ in range(150) for writer in "ab"
                    for word in ("read", "save")]
        self.assertEqual(len(schedule), 600)
        self.check(counts, schedule)
        self.check(counts, schedule[:400])
        self.check(counts, schedule[:401])
        mixed = [(word, writer) for _ in range(150) for word in ("read", "save")
                 for writer in chance.sample("ab", 2)]
        self.check(counts, mixed)


if __name__ == "__main__":
    unittest.main()
