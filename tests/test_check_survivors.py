"""Point 34: the check of obstructions of line sets."""

import random
import unittest

from lastcopy.check_survivors import is_survival_obstruction
from lastcopy.errors import InvalidLineCounts, InvalidLineSet
from lastcopy.survivors import can_survive, survival_obstruction
from tests.support import (
    Prickly, all_line_sets, line_set_of, model_survival_obstructions, odd_values,
)

MOST = 10 ** 30
COUNTS = {"a": 3, "b": 1}


def candidates(counts):
    """Values that have the form of an obstruction, with small numbers, also of other writers."""
    found = [("no first",), ("no last",), ("single end",), ("gaps",)]
    for writer in list(counts) + ["q"]:
        for number in range(-1, 4):
            found.append(("single end", (writer, number)))
            found.extend(("gaps", writer, number, others) for others in range(-1, 4))
    return found


class CheckTest(unittest.TestCase):
    def check(self, counts, line_set, expected):
        for value in candidates(counts) + expected:
            self.assertIs(is_survival_obstruction(counts, line_set, value), value in expected,
                          (counts, line_set, value))

    def test_examples(self):
        self.assertIs(is_survival_obstruction({"a": 1, "b": 1}, {}, ("no last",)), True)

    def test_each_kind(self):
        cases = [
            (COUNTS, {"a": [(1, 1), (3, 3)]}, [("gaps", "a", 1, 0)]),
            (COUNTS, {"a": [(2, 2)], "b": [(1, 1)]}, [("single end", ("b", 1)), ("gaps", "a", 2, 1)]),
            ({"a": 1}, {}, [("no first",), ("no last",), ("gaps", "a", 1, 0)]),
            ({"a": 1, "b": 0}, {}, [("no first",), ("no last",), ("gaps", "a", 1, 0)]),
            ({"b": 2, "a": MOST, "n": 0}, {"a": [], "n": []},
             [("no first",), ("no last",), ("gaps", "a", 1, 0), ("gaps", "b", 1, 0)]),
            ({"a": 4, "b": 4}, {"a": [(2, 4)], "b": [(2, 4)]}, [("no first",)]),
            ({"a": 4, "b": 4}, {"a": [(1, 3)], "b": [(1, 3)]}, [("no last",)]),
            ({"a": 4, "b": 4}, {"a": [(2, 3)], "b": [(2, 3)]}, [("no first",), ("no last",)]),
            ({"a": 9, "b": 2}, {"a": [(2, 2), (4, 4), (6, 6)], "b": [(1, 2)]},
             [("gaps", "a", 4, 2)]),
            ({"a": 9, "b": 2}, {"a": [(2, 2), (4, 4), (6, 6)], "b": [(2, 2)]},
             [("no first",), ("gaps", "a", 4, 1)]),
            ({"a": 1, "b": 5}, {"a": [(1, 1)], "b": [(2, 3)]},
             [("single end", ("a", 1)), ("gaps", "b", 2, 1)]),
            ({"a": 1, "b": 5, "c": 2}, {"a": [(1, 1)], "b": [(2, 3)], "c": [(1, 1)]}, []),
            ({"a": MOST}, {"a": [(1, MOST - 1)]}, [("no last",), ("gaps", "a", 1, 0)]),
            ({"a": 1}, {"a": [(1, 1)]}, []),
            ({"a": 0}, {}, []),
            ({"a": 0, "b": 0}, {"b": []}, []),
        ]
        for counts, line_set, expected in cases:
            self.check(counts, line_set, expected)

    def test_all_sets_of_small_counts(self):
        for counts in ({"a": 1}, {"a": 4}, {"a": 1, "b": 1}, {"b": 2, "a": 2}, {"a": 4, "b": 1},
                       {"a": 2, "b": 1, "c": 1}, {"a": 0, "b": 2}, {"a": 0}):
            for lines in all_line_sets(counts):
                line_set = line_set_of(lines)
                expected = model_survival_obstructions(counts, lines)
                self.check(counts, line_set, expected)
                first = survival_obstruction(counts, line_set)
                self.assertIs(is_survival_obstruction(counts, line_set, first), first is not None)

    def test_random_sets(self):
        chance = random.Random(34)
        for _ in range(200):
            counts = {name: chance.randint(0, 6) for name in "abc"}
            lines = [(writer, number) for writer in counts
                     for number in range(1, counts[writer] + 1)]
            chosen = sorted(chance.sample(lines, chance.randint(0, len(lines))))
            expected = model_survival_obstructions(counts, chosen)
            self.check(counts, line_set_of(chosen), expected)

    def test_changed_in_one_place(self):
        for counts, line_set in ((COUNTS, {"a": [(2, 2)], "b": [(1, 1)]}), (COUNTS, {})):
            for good in (("no first",), ("no last",), ("single end", ("b", 1)), ("gaps", "a", 2, 1),
                         ("gaps", "b", 1, 0), ("gaps", "a", 1, 0)):
                if not is_survival_obstruction(counts, line_set, good):
                    continue
                wrong = [list(good), good + (None,), good[:-1], (), (good,), [good], good[0],
                         dict.fromkeys(good), frozenset(good), good + good, good + (0, 0)]
                for at, part in enumerate(good):
                    changed = [None, Prickly(), [part], (part,), -1, 10 ** 40, True, False, "",
                               b"a", {}, str(part) + " ", str(part).upper()]
                    if type(part) is int:
                        changed += [part + 1, part - 1, float(part), str(part)]
                    if type(part) is tuple:
                        changed += [list(part), ("b", True), ("b", 1.0), ("b",), ("b", 1, 1),
                                    ("a", 1), ("b", 2), ("z", 1), (Prickly(), 1), ("b", Prickly())]
                    wrong += [good[:at] + (other,) + good[at + 1:] for other in changed]
                for value in wrong:
                    self.assertIs(is_survival_obstruction(counts, line_set, value), False, good)

    def test_booleans_are_no_integers(self):
        line_set = {"a": [(1, 1), (3, 3)]}
        self.assertIs(is_survival_obstruction(COUNTS, line_set, ("gaps", "a", 1, 0)), True)
        self.assertIs(is_survival_obstruction(COUNTS, line_set, ("gaps", "a", True, 0)), False)
        self.assertIs(is_survival_obstruction(COUNTS, line_set, ("gaps", "a", 1, False)), False)

    def test_no_obstruction_of_a_set_that_can_survive(self):
        for counts in ({"a": 3, "b": 2}, {"a": 0}, {"a": 1, "b": 4}):
            for lines in all_line_sets(counts):
                if can_survive(counts, line_set_of(lines)):
                    self.check(counts, line_set_of(lines), [])

    def test_any_value(self):
        for value in odd_values() + [(), ((),), ("gaps", "a"), ("gaps", "a", 1), ("single end",)]:
            for line_set in ({}, {"a": [(2, 2)], "b": [(1, 1)]}, {"a": [(1, 3)]}):
                self.assertIs(is_survival_obstruction(COUNTS, line_set, value), False)

    def test_order_of_errors(self):
        for value in odd_values() + [("no first",)]:
            with self.assertRaises(InvalidLineCounts):
                is_survival_obstruction({"a": True}, None, value)
            with self.assertRaises(InvalidLineSet):
                is_survival_obstruction({"a": 1}, {"b": []}, value)


if __name__ == "__main__":
    unittest.main()
