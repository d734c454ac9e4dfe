"""Points 2 and 3, for every function: wrong arguments, the order of errors, and whose lists are
whose.
"""

import copy
import random
import unittest

from lastcopy.errors import InvalidAction, InvalidInteger, LastCopyError
from tests.calls import (
    ERRORS, FUNCTIONS, bad_values, good_value, random_arguments, takes_any_value,
)
from tests.support import odd_values


class WrongArgumentTest(unittest.TestCase):
    def check(self, function, arguments, error):
        with self.assertRaises(LastCopyError) as caught:
            function(*arguments)
        self.assertIs(type(caught.exception), error)
        return caught.exception

    def test_each_wrong_argument(self):
        for module, name, kinds in FUNCTIONS:
            for at, kind in enumerate(kinds):
                if takes_any_value(kind):
                    continue
                for number, bad in enumerate(bad_values(kind)):
                    arguments = [good_value(kind) for kind in kinds]
                    arguments[at] = bad
                    with self.subTest(name, argument=at, value=number):
                        self.check(getattr(module, name), arguments, ERRORS[kind])

    def test_the_first_of_several_wrong_arguments(self):
        for module, name, kinds in FUNCTIONS:
            for at, kind in enumerate(kinds):
                if takes_any_value(kind):
                    continue
                later = [odd_values() if takes_any_value(kind) else bad_values(kind)[:3]
                         for kind in kinds[at + 1:]]
                for number, bad in enumerate(bad_values(kind)):
                    arguments = [good_value(kind) for kind in kinds[:at]] + [bad]
                    arguments += [values[number % len(values)] for values in later]
                    with self.subTest(name, argument=at, value=number):
                        self.check(getattr(module, name), arguments, ERRORS[kind])

    def test_any_value_beside_a_wrong_argument(self):
        for module, name, kinds in FUNCTIONS:
            for at, kind in enumerate(kinds):
                if takes_any_value(kind):
                    continue
                for number, value in enumerate(odd_values()):
                    arguments = [value if takes_any_value(kind) else good_value(kind)
                                 for kind in kinds]
                    bad = bad_values(kind)
                    arguments[at] = bad[number % len(bad)]
                    with self.subTest(name, argument=at, value=number):
                        self.check(getattr(module, name), arguments, ERRORS[kind])

    def test_all_wrong_in_pairs(self):
        for module, name, kinds in FUNCTIONS:
            if len(kinds) < 2 or takes_any_value(kinds[0]):
                continue
            for bad in bad_values(kinds[0]):
                for number, other in enumerate(odd_values()):
                    arguments = [bad, other] + [None] * (len(kinds) - 2)
                    with self.subTest(name, value=number):
                        self.check(getattr(module, name), arguments, ERRORS[kinds[0]])

    def test_a_line_is_checked_after_the_schedule(self):
        for module, name, kinds in FUNCTIONS:
            if "line" in kinds and "schedule" in kinds:
                for bad in bad_values("line"):
                    schedule = good_value("schedule") + [("save", "b")]
                    error = self.check(getattr(module, name),
                                       [good_value("counts"), schedule, bad], InvalidAction)
                    self.assertEqual(error.position, 4)

    def test_any_value_gives_false(self):
        for module, name, kinds in FUNCTIONS:
            for number, value in enumerate(odd_values()):
                arguments = [value if takes_any_value(kind) else good_value(kind)
                             for kind in kinds]
                if any(map(takes_any_value, kinds)):
                    with self.subTest(name, value=number):
                        self.assertIs(getattr(module, name)(*arguments), False)

    def test_index_depends_on_the_content(self):
        line_at = next(getattr(m, name) for m, name, _ in FUNCTIONS if name == "line_at")
        split_at = next(getattr(m, name) for m, name, _ in FUNCTIONS if name == "split_at")
        for content, total in (([], 0), ([("a", 1, 1)], 1), ([("a", 2, 3), ("b", 9, 9)], 3)):
            self.check(line_at, [content, total], InvalidInteger)
            self.check(line_at, [content, -1], InvalidInteger)
            self.check(split_at, [content, total + 1], InvalidInteger)
            self.check(split_at, [content, -1], InvalidInteger)
            self.assertEqual(split_at(content, total), (content, []))


def spoil(value):
    """Changes every list and dict of a value in place."""
    if type(value) in (list, tuple):
        for part in value:
            spoil(part)
    if type(value) is list:
        value.append("spoilt")
        value.reverse()
    if type(value) is dict:
        for part in value.values():
            spoil(part)
        value.clear()
        value["spoilt"] = []


def mutable_parts(value):
    """The lists and dicts in a value, itself included."""
    parts = [value] if type(value) in (list, dict) else []
    inner = value.values() if type(value) is dict else value
    if type(value) in (list, tuple, dict):
        for part in inner:
            parts.extend(mutable_parts(part))
    return parts


def picture(value):
    """A text that shows kinds, values and the order of keys."""
    return repr(value)


class OwnListTest(unittest.TestCase):
    """Valid calls of every function, each with arguments of its own."""

    def cases(self):
        chance = random.Random(2)
        for module, name, kinds in FUNCTIONS:
            yield getattr(module, name), [good_value(kind) for kind in kinds]
            for _ in range(10):
                yield getattr(module, name), random_arguments(chance, kinds)

    def test_arguments_are_unchanged(self):
        for function, arguments in self.cases():
            before = picture(arguments)
            function(*arguments)
            self.assertEqual(picture(arguments), before)

    def test_arguments_are_unchanged_after_an_error(self):
        for module, name, kinds in FUNCTIONS:
            for at, kind in enumerate(kinds):
                arguments = [good_value(kind) for kind in kinds]
                arguments[at] = [("a", 1, 1), ["b", 1], {"c": []}]
                before = picture(arguments)
                try:
                    getattr(module, name)(*arguments)
                except LastCopyError:
                    pass
                self.assertEqual(picture(arguments), before)

    def test_results_are_new_objects(self):
        for function, arguments in self.cases():
            known = mutable_parts(arguments) + mutable_parts(function(*arguments))
            for part in mutable_parts(function(*arguments)):
                self.assertFalse([old for old in known if old is part], function.__name__)

    def test_a_spoilt_result_spoils_nothing(self):
        for function, arguments in self.cases():
            before = picture(arguments)
            result = function(*arguments)
            kept = copy.deepcopy(result)
            spoil(result)
            self.assertEqual(picture(arguments), before)
            self.assertEqual(function(*arguments), kept)

    def test_a_spoilt_argument_spoils_no_result(self):
        for function, arguments in self.cases():
            result = function(*arguments)
            kept = copy.deepcopy(result)
            spoil(arguments)
            self.assertEqual(result, kept)

    def test_arguments_that_are_changed_in_place(self):
        cases = list(self.cases())
        for (function, arguments), (other, others) in zip(cases, cases[1:]):
            if other is not function:
                continue
            function(*arguments)
            for old, new in zip(arguments, others):
                if type(old) is list and type(new) is list:
                    old[:] = new
                elif type(old) is dict:
                    old.clear()
                    old.update(new)
            for at, new in enumerate(others):
                if type(new) in (tuple, int):
                    arguments[at] = new
            self.assertEqual(arguments, others)
            self.assertEqual(function(*arguments), function(*copy.deepcopy(others)))

    def test_equal_calls_give_equal_results(self):
        for function, arguments in self.cases():
            turned = [dict(reversed(list(part.items()))) if type(part) is dict else part
                      for part in copy.deepcopy(arguments)]
            result = function(*arguments)
            self.assertEqual(function(*turned), result)
            self.assertEqual(function(*arguments), result)

    def test_a_tuple_of_runs_gives_the_same_result(self):
        for module, name, kinds in FUNCTIONS:
            for at, kind in enumerate(kinds):
                if kind.endswith(("content", "outcome", "observations")) and "obstruction" not in kind:
                    arguments = [good_value(kind) for kind in kinds]
                    expected = getattr(module, name)(*arguments)
                    arguments[at] = tuple(arguments[at])
                    self.assertEqual(getattr(module, name)(*arguments), expected)

    def test_results_are_lists(self):
        content = (("a", 1, 2),)
        by_name = {name: getattr(module, name) for module, name, _ in FUNCTIONS}
        self.assertIs(type(by_name["append_line"](content, ("a", 3))), list)
        self.assertIs(type(by_name["append_line"]((), ("a", 3))), list)
        parts = by_name["split_at"](content, 1)
        self.assertEqual([type(part) for part in parts], [list, list])
        self.assertIs(type(parts), tuple)
        self.assertIs(type(by_name["reverse_content"]({"a": 2}, content)), list)
        self.assertIs(type(by_name["next_lines"]({"a": 3}, content)), list)
        self.assertIs(type(by_name["schedule_to_appear"]({"a": 3}, content)), list)


if __name__ == "__main__":
    unittest.main()
