"""Points 72 to 78: states, and what can still happen from them."""

import copy
import itertools
import random
import time
import unittest

from lastcopy.contents import is_prefix
from lastcopy.errors import (
    InvalidAction, InvalidContent, InvalidLineCounts, InvalidState, TooManyResults,
)
from lastcopy.final import can_be_final
from lastcopy.schedules import is_schedule, state_after
from lastcopy.states import (
    actions_to_final, can_become_final, finality_obstructions, guaranteed_lines, is_state,
    permanently_lost, possible_bases, reachable_final_contents, schedule_to_state,
    state_after_actions,
)
from tests.calls import bad_states, good_state
from tests.searches import all_finals, all_states, lines_of
from tests.support import (
    Prickly, all_contents, compress, expand, line_set_of, model_after, odd_values, random_content,
    random_schedule,
)

MOST = 10 ** 30
LETTERS = "abcdefghijkl"
M = {"a": 2, "b": 1}
T = ({"a": 1, "b": 0}, [("a", 1, 1)], {"b": []})
SMALL_COUNTS = [
    {"a": 0}, {"a": 1}, {"a": 3}, {"a": 0, "b": 1}, {"a": 1, "b": 1}, {"b": 2, "a": 1},
    {"a": 1, "b": 1, "c": 1},
]
MORE_COUNTS = [{"a": 2, "b": 2}, {"a": 3, "b": 1}, {"a": 2, "b": 1, "c": 1}]
WITH_CONTENT = [can_become_final, finality_obstructions, actions_to_final]
WITHOUT = [schedule_to_state, possible_bases, guaranteed_lines, permanently_lost,
           reachable_final_contents]


def plain(counts, state):
    """A state of the search as the package takes it."""
    writers = sorted(counts)
    return (dict(zip(writers, state[0])), compress(state[1]),
            {writer: compress(held) for writer, held in zip(writers, state[2]) if held is not None})


def model_state(model):
    copies = {holder: compress(held) for holder, held in model.copies.items()}
    return (model.saved, compress(model.page), copies)


def random_state(chance, counts, length=14, longest=3):
    schedule = random_schedule(chance, counts, chance.randint(0, length), longest)
    return model_state(model_after(counts, schedule))


class ExampleTest(unittest.TestCase):
    def test_is_state(self):
        k = {"a": 1, "b": 1, "c": 1}
        self.assertIs(is_state(k, ({"a": 1, "b": 1, "c": 0}, [("a", 1, 1), ("b", 1, 1)],
                                   {"c": [("b", 1, 1)]})), False)

    def test_schedule_to_state(self):
        self.assertEqual(schedule_to_state({"a": 1}, ({"a": 0}, [], {})), [])

    def test_state_after_actions(self):
        self.assertEqual(state_after_actions(M, T, [("save", "b")]),
                         ({"a": 1, "b": 1}, [("b", 1, 1)], {}))

    def test_bases(self):
        self.assertEqual(possible_bases(M, T), [(None, [("a", 1, 1)]), ("b", [])])
        self.assertEqual((guaranteed_lines(M, T), permanently_lost(M, T)), ({}, {}))

    def test_contents(self):
        self.assertIs(can_become_final(M, T, [("b", 1, 1), ("a", 2, 2)]), True)
        self.assertEqual(finality_obstructions(M, T, [("a", 1, 1), ("b", 1, 1)]),
                         [(None, "next", 1), ("b", "decreasing", 0)])
        self.assertIsNone(actions_to_final(M, T, [("a", 1, 1)]))
        self.assertEqual(reachable_final_contents(M, T), [
            [("a", 1, 2)], [("b", 1, 1)], [("b", 1, 1), ("a", 2, 2)]])


class StateTest(unittest.TestCase):
    """[72]"""

    def test_all_values_of_small_counts(self):
        """Every number of saved lines with every page and all copies, also of repeated lines."""
        for counts in ({"a": 0}, {"a": 1}, {"a": 2}, {"a": 1, "b": 1}):
            self.check_all(counts, all_contents(counts, sum(counts.values()) + 1))

    def test_all_values_of_more_counts(self):
        for counts in ({"a": 2, "b": 1}, {"a": 1, "b": 1, "c": 1}):
            contents = [lines for many in range(4)
                        for lines in itertools.permutations(lines_of(counts), many)]
            self.check_all(counts, contents, 8)

    def check_all(self, counts, contents, sampled=1):
        chance = random.Random(72)
        known = set(all_states(counts))
        writers = sorted(counts)
        found = 0
        for saved in itertools.product(*[range(counts[writer] + 1) for writer in writers]):
            for page in contents:
                for copies in itertools.product(*[[None] + contents for _ in writers]):
                    state = (saved, page, copies)
                    if state in known or chance.randrange(sampled) == 0:
                        expected = state in known
                        self.assertIs(is_state(counts, plain(counts, state)), expected, state)
                        found += expected
        self.assertEqual(found, len(known))

    def test_drawn_states(self):
        chance = random.Random(721)
        for _ in range(300):
            counts = {name: chance.choice([0, 1, 3, 9, MOST]) for name in chance.sample(LETTERS, 4)}
            schedule = random_schedule(chance, counts, chance.randint(0, 30))
            state = state_after(counts, schedule)
            self.assertIs(is_state(counts, state), True)
            tuples = (state[0], tuple(state[1]), {name: tuple(runs) for name, runs in state[2].items()})
            self.assertIs(is_state(counts, tuples), True)

    def test_parts_of_another_state(self):
        chance = random.Random(722)
        found = {True: 0, False: 0}
        for counts in MORE_COUNTS:
            known = all_states(counts)
            member = set(known)
            for _ in range(400):
                one, other = chance.choice(known), chance.choice(known)
                for mixed in ((other[0], one[1], one[2]), (one[0], other[1], one[2]),
                              (one[0], one[1], other[2])):
                    expected = mixed in member
                    self.assertIs(is_state(counts, plain(counts, mixed)), expected, mixed)
                    found[expected] += 1
        self.assertGreater(min(found.values()), 50)

    def test_wrong_values(self):
        counts = {"b": 3, "a": 4, "n": 0}
        self.assertIs(is_state(counts, good_state()), True)
        for number, value in enumerate(bad_states() + odd_values()):
            with self.subTest(number):
                self.assertIs(is_state(counts, value), False)
                with self.assertRaises(InvalidLineCounts):
                    is_state({"a": True}, value)

    def test_each_condition(self):
        counts = {"a": 3, "b": 2}
        good = ({"a": 2, "b": 1}, [("a", 1, 1), ("b", 1, 1)], {"a": [("a", 1, 2)]})
        self.assertIs(is_state(counts, good), True)
        saved, page, copies = good
        for value in [
                # A holder without a line left.
                ({"a": 3, "b": 1}, page, copies),
                # A line that is not saved; an empty page; an empty copy of a writer that has saved.
                (saved, page, {"a": [("a", 1, 3)]}), (saved, [], copies), (saved, page, {"a": []}),
                # The base of a2 is None; a3 without a2 before it; a line before itself.
                (saved, page, {"a": [("a", 2, 2)]}), (saved, [("b", 1, 1), ("a", 2, 2)], copies),
                # The copy of a was read before a2 was saved.
                (saved, page, {"a": [("a", 1, 1)]}),
                # The page ends with a line that another line follows.
                (saved, [("a", 1, 1)], copies), ({"a": 2, "b": 2}, page, copies)]:
            self.assertIs(is_state(counts, value), False, value)

    def test_large_numbers(self):
        counts = {"a": MOST, "b": MOST}
        copies = {"b": [("a", 1, 7), ("b", 5, 5), ("a", 8, 9)]}
        for last, expected in ((8, False), (9, True), (MOST - 1, True), (MOST, True)):
            state = ({"a": last, "b": 5}, [("a", 1, 7), ("b", 5, 5), ("a", 8, last)], copies)
            self.assertIs(is_state(counts, state), expected)
        state = ({"a": MOST, "b": 5}, [("a", 1, 3), ("b", 5, 5), ("a", 4, MOST)], {})
        self.assertIs(is_state(counts, state), True)
        # The copy of b must be from after b5, but a3 was saved before it.
        state = ({"a": MOST, "b": 5}, [("a", 1, 3), ("b", 5, 5), ("a", 4, MOST)],
                 {"b": [("a", 1, 3)]})
        self.assertIs(is_state(counts, state), False)


class ArgumentTest(unittest.TestCase):
    def test_errors_in_their_order(self):
        counts = {"b": 3, "a": 4, "n": 0}
        for value in bad_states() + odd_values():
            for function in WITHOUT:
                with self.assertRaises(InvalidState):
                    function(counts, value)
                with self.assertRaises(InvalidLineCounts):
                    function({"a": -1}, value)
            for function in WITH_CONTENT + [state_after_actions]:
                for other in ([], None, Prickly()):
                    with self.assertRaises(InvalidState):
                        function(counts, value, other)
                    with self.assertRaises(InvalidLineCounts):
                        function({"a": -1}, value, other)

    def test_contents(self):
        for content in odd_values() + [[("c", 1, 1)], [("a", 3, 3)], [["a", 1, 1]], [("a", True, 1)]]:
            for function in WITH_CONTENT:
                with self.assertRaises(InvalidContent):
                    function(M, T, content)

    def test_a_state_that_is_changed_in_place(self):
        counts = {"a": 2, "b": 2}
        state = ({"a": 1, "b": 0}, [("a", 1, 1)], {"b": []})
        other = ({"a": 2, "b": 1}, [("b", 1, 1), ("a", 2, 2)], {"b": [("b", 1, 1)]})
        self.assertEqual(possible_bases(counts, state), [(None, [("a", 1, 1)]), ("b", [])])
        state[0].update(other[0])
        state[1][:] = other[1]
        state[2]["b"].append(("b", 1, 1))
        self.assertEqual(state, other)
        self.assertEqual(possible_bases(counts, state), [("b", [("b", 1, 1)])])
        self.assertEqual(guaranteed_lines(counts, state), {"b": [(1, 2)]})
        self.assertEqual(reachable_final_contents(counts, state), [[("b", 1, 2)]])

    def test_states_are_unchanged(self):
        chance = random.Random(2)
        for _ in range(100):
            counts = {name: chance.randint(0, 3) for name in "abc"}
            state = random_state(chance, counts)
            kept = copy.deepcopy(state)
            for function in WITHOUT[:-1]:
                result = function(counts, state)
                before = copy.deepcopy(result)
                for part in result.values() if type(result) is dict else result:
                    if type(part) is tuple and type(part[1]) is list:
                        part[1].append("spoilt")
                result.clear()
                self.assertEqual(state, kept)
                self.assertEqual(function(counts, state), before)
            after = state_after_actions(counts, state, [])
            self.assertEqual(after, kept)
            after[1].append("spoilt")
            for held in after[2].values():
                held.append("spoilt")
            after[0].clear()
            self.assertEqual(state, kept)


class ScheduleTest(unittest.TestCase):
    """[73] and [74]"""

    def check(self, counts, state):
        schedule = schedule_to_state(counts, state)
        self.assertIs(type(schedule), list)
        self.assertIs(is_schedule(counts, schedule), True)
        self.assertEqual(state_after(counts, schedule), state)
        return schedule

    def test_all_states_of_small_counts(self):
        for counts in SMALL_COUNTS + MORE_COUNTS:
            for state in all_states(counts):
                state = plain(counts, state)
                schedule = self.check(counts, state)
                self.assertEqual(model_state(model_after(counts, schedule)), state)

    def test_drawn_states(self):
        chance = random.Random(73)
        for _ in range(200):
            counts = {name: chance.choice([0, 1, 4, MOST]) for name in chance.sample(LETTERS, 5)}
            schedule = random_schedule(chance, counts, chance.randint(0, 40))
            self.check(counts, state_after(counts, schedule))

    def test_actions(self):
        chance = random.Random(74)
        for _ in range(300):
            counts = {name: chance.randint(0, 4) for name in "abc"}
            schedule = random_schedule(chance, counts, 14, 3)
            cut = chance.randint(0, len(schedule))
            state = state_after(counts, schedule[:cut])
            self.assertEqual(state_after_actions(counts, state, schedule[cut:]),
                             state_after(counts, schedule))
            wrong = chance.choice([("save", "a"), ("read", "a"), ("append", "a", 1), ("leave", "a"),
                                   ("append", "b", 5), ["read", "b"], None, ("read", "d")])
            at = chance.randint(cut, len(schedule))
            actions = schedule[cut:at] + [wrong] + schedule[at:]
            try:
                state_after(counts, schedule[:at] + [wrong] + schedule[at:])
            except InvalidAction as error:
                with self.assertRaises(InvalidAction) as caught:
                    state_after_actions(counts, state, actions)
                self.assertEqual(caught.exception.position, error.position - cut)

    def test_actions_of_other_kinds(self):
        for value in odd_values() + [(), {}, "save b", (("save", "b"),)]:
            if type(value) is not list:
                with self.assertRaises(InvalidAction) as caught:
                    state_after_actions(M, T, value)
                self.assertIsNone(caught.exception.position)
        for value in odd_values() + [("append", "a", True), ("append", "a", 0), ("read", "c")]:
            with self.assertRaises(InvalidAction) as caught:
                state_after_actions(M, T, [("save", "b"), value])
            self.assertEqual(caught.exception.position, 1)
        with self.assertRaises(InvalidAction) as caught:
            state_after_actions(M, T, [("read", "b")])
        self.assertEqual(caught.exception.position, 0)


class BaseTest(unittest.TestCase):
    """[75]"""

    def test_all_states(self):
        for counts in SMALL_COUNTS + MORE_COUNTS:
            for state, finals in all_finals(counts).items():
                given = plain(counts, state)
                bases = self.check_bases(counts, given)
                contents = [set(lines) for lines in finals]
                self.assertEqual(guaranteed_lines(counts, given),
                                 line_set_of(set.intersection(*contents)))
                saved = {(writer, number) for writer, many in given[0].items()
                         for number in range(1, many + 1)}
                self.assertEqual(permanently_lost(counts, given),
                                 line_set_of(saved - set.union(*contents)))
                for lines in finals:
                    self.assertTrue([held for _, held in bases if is_prefix(held, compress(lines))])

    def check_bases(self, counts, state):
        saved, page, copies = state
        left = [writer for writer in counts if saved[writer] < counts[writer]]
        expected = [(holder, copies[holder]) for holder in sorted(copies)]
        if not left or set(left) - set(copies):
            expected.insert(0, (None, page))
        bases = possible_bases(counts, state)
        self.assertEqual(bases, expected)
        return bases

    def test_large_numbers(self):
        counts = {"a": MOST, "b": MOST, "c": 0}
        state = ({"a": 9, "b": MOST, "c": 0}, [("b", 1, 4), ("a", 7, 9)], {"a": [("b", 1, 4), ("a", 7, 9)]})
        self.assertEqual(self.check_bases(counts, state), [("a", [("b", 1, 4), ("a", 7, 9)])])
        self.assertEqual(guaranteed_lines(counts, state), {"a": [(7, MOST)], "b": [(1, 4)]})
        self.assertEqual(permanently_lost(counts, state), {"a": [(1, 6)], "b": [(5, MOST)]})

    def test_nothing_saved_and_everything_saved(self):
        empty = ({"a": 0, "b": 0}, [], {})
        self.assertEqual(possible_bases(M, empty), [(None, [])])
        self.assertEqual((guaranteed_lines(M, empty), permanently_lost(M, empty)), ({}, {}))
        held = ({"a": 0, "b": 0}, [], {"b": [], "a": []})
        self.assertEqual(possible_bases(M, held), [("a", []), ("b", [])])
        full = ({"a": 2, "b": 1}, [("b", 1, 1)], {})
        self.assertEqual(possible_bases(M, full), [(None, [("b", 1, 1)])])
        self.assertEqual(guaranteed_lines(M, full), {"b": [(1, 1)]})
        self.assertEqual(permanently_lost(M, full), {"a": [(1, 2)]})
        self.assertEqual(guaranteed_lines({"a": 3}, ({"a": 0}, [], {})), {"a": [(1, 3)]})


def words_of(counts, state, content):
    """The obstructions of point 77, line by line; None if the content is reachable."""
    saved, page, copies = state
    lines = expand(content)
    left = sum(counts.values()) - sum(saved.values())
    bases = [(holder, copies[holder]) for holder in sorted(copies)]
    if not left or any(saved[name] < counts[name] and name not in copies for name in counts):
        bases.insert(0, (None, page))
    found = []
    for holder, base in bases:
        word = word_behind(counts, state, content, lines, holder, expand(base), left)
        if word is None:
            return None
        found.append((holder,) + word)
    return found


def word_behind(counts, state, content, lines, holder, base, left):
    saved, page, copies = state
    if not left:
        return None if lines == expand(page) else ("base", None)
    if lines[:len(base)] != base or len(lines) == len(base):
        return ("base", None)
    place = 0
    for index, (writer, first, last) in enumerate(content):
        new = [at for at in range(place, place + last - first + 1) if at >= len(base)]
        place += last - first + 1
        if not new:
            continue
        line = lines[new[0]]
        if line[1] <= saved[writer] or any(
                name == writer and number >= line[1] for name, number in lines[:new[0]]):
            return ("decreasing", index)
        if index and content[index - 1][0] == writer:
            return ("split", index)
        if new[0] == len(base):
            free = [name for name in counts if name not in copies] if holder is None else [holder]
            if line not in [(name, saved[name] + 1) for name in free]:
                return ("next", index)
        if any((name, saved[name] + 1) in [lines[at] for at in new]
               for name in copies if name != holder):
            return ("copy", index)
    return ("end", len(content) - 1) if lines[-1][1] != counts[lines[-1][0]] else None


class ReachableTest(unittest.TestCase):
    """[76] to [78]"""

    def check(self, counts, state, content, expected=None):
        words = words_of(counts, state, content)
        obstructions = finality_obstructions(counts, state, content)
        self.assertEqual(obstructions, words, (counts, state, content))
        self.assertIs(can_become_final(counts, state, content), words is None)
        actions = actions_to_final(counts, state, content)
        self.assertIs(actions is None, words is not None)
        if actions is not None:
            self.assertIs(type(actions), list)
            self.assertEqual(state_after_actions(counts, state, actions),
                             (counts, list(content), {}))
        if expected is not None:
            self.assertIs(words is None, expected)
        return words

    def test_all_states_of_small_counts(self):
        for counts in SMALL_COUNTS:
            contents = all_contents(counts, sum(counts.values()) + 1)
            for state, finals in all_finals(counts).items():
                given = plain(counts, state)
                for lines in contents:
                    self.check(counts, given, compress(lines), lines in finals)

    def test_states_of_more_counts(self):
        chance = random.Random(76)
        for counts in MORE_COUNTS:
            contents = [lines for many in range(5)
                        for lines in itertools.permutations(lines_of(counts), many)]
            for state, finals in all_finals(counts).items():
                given = plain(counts, state)
                for lines in chance.sample(contents, 4) + sorted(finals)[:2]:
                    self.check(counts, given, compress(lines), lines in finals)

    def test_all_reachable_contents(self):
        for counts in SMALL_COUNTS + MORE_COUNTS:
            for state, finals in all_finals(counts).items():
                expected = sorted(compress(lines) for lines in finals)
                self.assertEqual(reachable_final_contents(counts, plain(counts, state)), expected)

    def test_each_word_occurs(self):
        chance = random.Random(77)
        seen = {}
        for _ in range(3000):
            counts = {name: chance.randint(0, 4) for name in "abc"}
            state = random_state(chance, counts, 8)
            if not any(counts.values()):
                continue
            content = random_content(chance, counts, 3)
            if chance.random() < 0.8:
                holder, base = chance.choice(possible_bases(counts, state))
                content = compress(expand(base) + expand(content))
            for _, word, _ in self.check(counts, state, content) or []:
                seen[word] = seen.get(word, 0) + 1
        for word in ("base", "decreasing", "split", "next", "copy", "end"):
            self.assertGreater(seen[word], 10)

    def test_words_one_by_one(self):
        counts = {"a": 4, "b": 3, "c": 2}
        state = ({"a": 1, "b": 1, "c": 0}, [("b", 1, 1), ("a", 1, 1)], {"b": [("b", 1, 1)]})
        for content, page, held in [
                ([], "base", "base"), ([("b", 1, 1)], "base", "base"),
                ([("b", 1, 1), ("a", 1, 1)], "base", ("decreasing", 1)),
                ([("b", 1, 1), ("a", 1, 1), ("b", 1, 1)], ("decreasing", 2), ("decreasing", 1)),
                ([("b", 1, 1), ("a", 1, 1), ("a", 3, 4)], ("split", 2), ("decreasing", 1)),
                ([("b", 1, 1), ("a", 1, 1), ("c", 2, 2)], ("next", 2), ("decreasing", 1)),
                ([("b", 1, 1), ("a", 1, 1), ("b", 2, 2)], ("next", 2), ("decreasing", 1)),
                ([("b", 1, 1), ("a", 1, 2), ("b", 2, 3)], ("copy", 2), ("decreasing", 1)),
                ([("b", 1, 1), ("a", 1, 2)], ("end", 1), ("decreasing", 1)),
                ([("b", 1, 1), ("a", 2, 4)], "base", ("next", 1)),
                ([("b", 1, 2)], "base", ("end", 0)),
                ([("b", 1, 1), ("b", 3, 3)], "base", ("split", 1)),
                ([("b", 1, 3), ("a", 4, 4), ("a", 4, 4)], "base", ("decreasing", 2))]:
            expected = [(holder,) + ((word, None) if type(word) is str else word)
                        for holder, word in ((None, page), ("b", held))]
            self.assertEqual(self.check(counts, state, content), expected)
        for content in ([("b", 1, 1), ("a", 1, 4)], [("b", 1, 3)], [("b", 1, 2), ("a", 4, 4)],
                        [("b", 1, 1), ("a", 1, 1), ("c", 1, 1), ("b", 3, 3)]):
            self.assertIsNone(self.check(counts, state, content))

    def test_equal_copies_are_two_bases(self):
        counts = {"a": 1, "b": 1}
        state = ({"a": 0, "b": 0}, [], {"a": [], "b": []})
        self.assertEqual(possible_bases(counts, state), [("a", []), ("b", [])])
        self.assertEqual(self.check(counts, state, [("a", 1, 1), ("b", 1, 1)]),
                         [("a", "copy", 1), ("b", "next", 0)])
        self.assertIsNone(self.check(counts, state, [("b", 1, 1)]))

    def test_no_line_left(self):
        full = ({"a": 2, "b": 1}, [("b", 1, 1), ("a", 2, 2)], {})
        self.assertIsNone(self.check(M, full, full[1]))
        self.assertEqual(actions_to_final(M, full, full[1]), [])
        self.assertEqual(reachable_final_contents(M, full), [full[1]])
        for content in ([], [("b", 1, 1)], full[1] + [("b", 1, 1)], [("a", 1, 2)]):
            self.assertEqual(self.check(M, full, content), [(None, "base", None)])
        nothing = ({"a": 0}, [], {})
        self.assertEqual(reachable_final_contents({"a": 0}, nothing), [[]])
        self.assertIsNone(self.check({"a": 0}, nothing, []))

    def test_large_numbers(self):
        counts = {"a": MOST, "b": MOST, "c": MOST}
        state = ({"a": 5, "b": 3, "c": 0}, [("a", 1, 3), ("b", 1, 3)],
                 {"c": [("a", 1, 3)], "a": [("a", 1, 3), ("b", 1, 3)]})
        self.assertIs(is_state(counts, state), True)
        for content, expected in [
                ([("a", 1, 3), ("b", 1, MOST)], True),
                ([("a", 1, 3), ("c", 1, 7), ("b", 4, 9), ("a", MOST, MOST)], True),
                ([("a", 1, 3), ("c", 1, 7), ("b", 4, 9), ("a", 6, MOST)], False),
                ([("a", 1, 3), ("b", 1, 3), ("a", 6, 8), ("b", MOST, MOST)], True),
                ([("a", 1, 3), ("b", 1, 3), ("a", 6, 8), ("c", 1, MOST)], False),
                ([("a", 1, 3), ("b", 1, 3), ("a", 6, 8), ("c", 2, MOST)], True)]:
            self.assertIs(can_become_final(counts, state, content), expected, content)
            actions = actions_to_final(counts, state, content)
            self.assertIs(actions is not None, expected)
            if expected:
                self.assertEqual(state_after_actions(counts, state, actions), (counts, content, {}))

    def test_contents_that_are_tuples(self):
        content = (("b", 1, 1), ("a", 2, 2))
        for function in WITH_CONTENT:
            self.assertEqual(function(M, T, content), function(M, T, list(content)))

    def test_limit(self):
        for counts, saved, total in (({"a": 8}, 0, 8), ({"a": MOST, "b": 0}, 0, MOST),
                                     ({letter: MOST for letter in LETTERS}, 3, 12 * MOST - 3)):
            given = ({letter: saved if letter == "a" else 0 for letter in counts},
                     [("a", 1, saved)] if saved else [], {})
            with self.assertRaises(TooManyResults) as caught:
                reachable_final_contents(counts, given)
            self.assertEqual(caught.exception.total, total)
        for counts in ({"a": 7}, {"a": 3, "b": 4}):
            given = ({letter: 0 for letter in counts}, [], {})
            found = reachable_final_contents(counts, given)
            self.assertEqual(found, sorted(found))
            self.assertTrue(all(can_be_final(counts, content) for content in found))

    def test_seven_writers(self):
        counts = {letter: 1 for letter in LETTERS[:7]}
        started = time.perf_counter()
        found = reachable_final_contents(counts, ({letter: 0 for letter in counts}, [], {}))
        self.assertLess(time.perf_counter() - started, 5)
        # Every order of every set of writers that is not empty.
        self.assertEqual(len(found), 7 + 42 + 210 + 840 + 2520 + 5040 + 5040)
        self.assertEqual(found, sorted(found))


class PropertyTest(unittest.TestCase):
    """Drawn states: what can happen after an action could happen before it."""

    def test_after_each_action(self):
        chance = random.Random(78)
        for _ in range(150):
            counts = {name: chance.randint(0, 3) for name in "abc"}
            schedule = random_schedule(chance, counts, 14, 2)
            cut = min(len(schedule), max(0, len(schedule) - 4))
            state = state_after(counts, schedule[:cut])
            if sum(counts.values()) - sum(state[0].values()) > 7:
                continue
            before = reachable_final_contents(counts, state)
            for action in schedule[cut:]:
                state = state_after_actions(counts, state, [action])
                after = reachable_final_contents(counts, state)
                self.assertTrue(all(content in before for content in after))
                before = after
            for content in before:
                self.assertIs(can_become_final(counts, state, content), True)

    def test_all_states_from_the_start_reach_what_can_be_final(self):
        for counts in SMALL_COUNTS:
            start = ({name: 0 for name in counts}, [], {})
            for lines in all_contents(counts, sum(counts.values())):
                content = compress(lines)
                self.assertIs(can_become_final(counts, start, content), can_be_final(counts, content))


if __name__ == "__main__":
    unittest.main()
