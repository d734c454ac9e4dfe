"""Points 90 to 92: values as texts, and back."""

import itertools
import random
import re
import unittest

from lastcopy import formats
from lastcopy.errors import (
    InvalidAction, InvalidContent, InvalidFormat, InvalidLineCounts, InvalidLineSet, InvalidState,
)
from lastcopy.formats import (
    format_content, format_line_counts, format_line_set, format_schedule, format_state,
    parse_content, parse_line_counts, parse_line_set, parse_schedule, parse_state,
)
from tests.calls import bad_free_line_sets, bad_free_schedules, bad_free_states
from tests.support import (
    all_line_sets, line_set_of, odd_values, random_content, random_schedule,
)

MOST = 10 ** 30
LETTERS = "abcdefghijkl"
PARSERS = [parse_line_counts, parse_content, parse_line_set, parse_schedule, parse_state]


class FormatTest(unittest.TestCase):
    def check_both(self, name, value, text):
        """The text of a value, and the value of the text."""
        self.assertEqual(getattr(formats, "format_" + name)(value), text)
        self.assertEqual(getattr(formats, "parse_" + name)(text), value)

    def check_position(self, parse, text, position):
        with self.assertRaises(InvalidFormat) as caught:
            parse(text)
        self.assertEqual(caught.exception.position, position, text)


class ExampleTest(FormatTest):
    def test_examples(self):
        self.assertEqual(format_line_counts({"bo": 0, "a": 3}), "a3 bo0")
        self.check_position(parse_line_counts, "", 0)
        self.check_both("content", [("a", 1, 3), ("b", 2, 2), ("a", 4, 4)], "a1-3 b2 a4")
        self.check_position(parse_content, "a1-2 a3", 1)
        self.assertEqual(format_line_set({"b": [(1, 1)], "a": [(1, 2), (4, 4)]}), "a1-2 a4 b1")
        self.assertEqual(parse_line_set("a1-2 b3"), {"a": [(1, 2)], "b": [(3, 3)]})
        self.check_both("schedule", [("read", "a"), ("append", "b", 3), ("save", "a")],
                        "read a, append b 3, save a")
        self.check_position(parse_schedule, "read a, save", 1)
        self.check_both("state", ({"a": 1, "b": 1}, [("b", 1, 1)], {"a": [], "b": [("b", 1, 1)]}),
                        "a1 b1 | b1 | a: | b: b1")
        self.check_position(parse_state, "a1", 1)

    def test_empty_values(self):
        self.check_both("content", [], "")
        self.check_both("line_set", {}, "")
        self.check_both("schedule", [], "")
        self.check_both("state", ({"a": 0}, [], {"a": []}), "a0 |  | a:")
        self.check_both("state", ({"a": 0}, [], {}), "a0 | ")
        self.assertEqual(format_line_set({"a": [], "b": []}), "")


class FormattingTest(FormatTest):
    """[92], the functions that format"""

    def test_line_counts(self):
        self.check_both("line_counts", {"a": 0}, "a0")
        self.check_both("line_counts", {"abcdefgh": MOST}, f"abcdefgh{MOST}")
        counts = {letter: 1 for letter in reversed(LETTERS)}
        self.check_both("line_counts", counts, "a1 b1 c1 d1 e1 f1 g1 h1 i1 j1 k1 l1")

    def test_contents_of_any_writers(self):
        self.check_both("content", [("z", MOST, MOST)], f"z{MOST}")
        self.check_both("content", [("b", 2, 3), ("b", 2, 3), ("b", 1, 1)], "b2-3 b2-3 b1")
        self.assertEqual(format_content((("b", 2, 3), ("b", 5, 5))), "b2-3 b5")
        content = [(first + second, 1, 1) for first in LETTERS for second in LETTERS] * 5
        self.check_both("content", content, " ".join(run[0] + "1" for run in content))

    def test_line_sets_of_any_writers(self):
        line_set = {first + second: [(1, 1), (3, 4)] for first in LETTERS for second in LETTERS}
        self.check_both("line_set", line_set, " ".join(f"{name}1 {name}3-4" for name in line_set))
        self.check_both("line_set", {"a": [(number, number) for number in range(1, 500, 2)]},
                        " ".join(f"a{number}" for number in range(1, 500, 2)))
        self.assertEqual(format_line_set({"b": [], "a": [(2, 2)]}), "a2")

    def test_schedules_that_are_not_possible(self):
        actions = [("save", "zz"), ("save", "zz"), ("append", "a", MOST), ("read", "abcdefgh")]
        self.check_both("schedule", actions, f"save zz, save zz, append a {MOST}, read abcdefgh")

    def test_states_that_are_none(self):
        state = ({"a": 1, "b": 5}, [("c", 9, 9), ("c", 1, 1)], {"b": [("d", 4, 5)], "a": []})
        self.check_both("state", state, "a1 b5 | c9 c1 | a: | b: d4-5")
        tuples = (state[0], tuple(state[1]), {name: tuple(runs) for name, runs in state[2].items()})
        self.assertEqual(format_state(tuples), "a1 b5 | c9 c1 | a: | b: d4-5")

    def test_wrong_values(self):
        for value in odd_values() + [{}, {"a": True}, {letter: 1 for letter in "abcdefghijklm"}]:
            with self.assertRaises(InvalidLineCounts):
                format_line_counts(value)
        for value in odd_values() + [[["a", 1, 1]], [("a", 1, 1), ("a", 2, 2)], [("a", 1, True)]]:
            with self.assertRaises(InvalidContent):
                format_content(value)
        for value in odd_values() + bad_free_line_sets():
            with self.assertRaises(InvalidLineSet):
                format_line_set(value)
        for value in odd_values() + bad_free_states():
            with self.assertRaises(InvalidState):
                format_state(value)

    def test_wrong_actions(self):
        for value in odd_values() + bad_free_schedules():
            with self.assertRaises(InvalidAction) as caught:
                format_schedule(value)
            if type(value) is not list:
                self.assertIsNone(caught.exception.position)
        for item in odd_values() + [("leave", "a"), ("read", "a", 1), ("append", "a"), ["read", "a"],
                                    ("append", "a", 0), ("append", "a", MOST + 1), ("append", "a", True)]:
            with self.assertRaises(InvalidAction) as caught:
                format_schedule([("save", "b"), ("read", "a"), item, None])
            self.assertEqual(caught.exception.position, 2)


class WordTest(FormatTest):
    """[90]: the words of line counts, contents and line sets."""

    WORDS = ["a1", "a2", "a10", "a1-2", "a2-3", "a12-345", "bo7", "abcdefgh1", f"a{MOST}",
             f"a1-{MOST}", f"a{MOST - 1}-{MOST}"]
    WRONG = ["", "a", "1", "A1", "a01", "a00", "a-1", "a+1", "a1-", "a-", "-", "a1-1", "a2-1", "a1-02",
             "a01-2", "a1--2", "a1-2-3", "a1-b2", "a1_", "a1.0", "a 1", "1a", "a1a", "abcdefghi1",
             "\u00e41", "a\u0661", "a\u00b2", "a1\n", "\ta1", "a1,", "a0-1", "a1-0", f"a{MOST + 1}",
             f"a1-{MOST + 1}", "a" + "9" * 31, "a" + "9" * 32, "a" + "1" * 5000, "a0x1", "a1e3", "a-1-2",
             "a1 ", " a1", "a1-a2", "a1:2", "a1-2-", "a1\u00a0", "aB1", "a1-\u0662", "\u00aa1"]

    def test_words_of_contents_and_line_sets(self):
        for word in self.WORDS:
            content = parse_content(word)
            self.assertEqual(format_content(content), word)
            line_set = parse_line_set(word)
            self.assertEqual(format_line_set(line_set), word)
            self.assertEqual(line_set, {content[0][0]: [content[0][1:]]})
        for word in self.WRONG + ["a0"]:
            if word and " " not in word:
                self.check_position(parse_content, word, 0)
                self.check_position(parse_line_set, word, 0)
                self.check_position(parse_content, "b1 c4 " + word + " b7", 2)
                self.check_position(parse_line_set, "a1 " + word, 1)

    def test_words_of_line_counts(self):
        for word in ("a0", "a1", "a10", "bo7", "abcdefgh1", f"a{MOST}"):
            self.assertEqual(format_line_counts(parse_line_counts(word)), word)
        for word in self.WRONG + ["a1-2", "a2-3"]:
            if " " not in word:
                self.check_position(parse_line_counts, word, 0)
                self.check_position(parse_line_counts, "a1 " + word + " c2", 1)

    def test_one_blank_more_or_less(self):
        for parse in (parse_content, parse_line_set, parse_line_counts):
            for text, position in ((" ", 0), ("  ", 0), (" a1", 0), ("a1 ", 1), ("a1  b2", 1),
                                   ("a1 b2 ", 2), ("a1 b2  c3", 2), ("a1b2", 0), ("a1 b 2", 1),
                                   ("a 1", 0), ("a1\tb2", 0), ("a1\nb2", 0), ("a1 b2  ", 2)):
                self.check_position(parse, text, position)

    def test_line_counts(self):
        for text, position in (("b1 a1", 1), ("a1 a1", 1), ("a1 a2", 1), ("a1 b1 aa1", 2), ("a1 b1-2", 1),
                               ("a1 b1 b2 c9", 2), ("b0 b0", 1)):
            self.check_position(parse_line_counts, text, position)
        self.assertEqual(parse_line_counts("a1 aa2 b0"), {"a": 1, "aa": 2, "b": 0})
        twelve = " ".join(letter + "1" for letter in LETTERS)
        self.assertEqual(len(parse_line_counts(twelve)), 12)
        self.check_position(parse_line_counts, twelve + " m1", 12)
        self.check_position(parse_line_counts, twelve + " m1 n1", 12)
        self.check_position(parse_line_counts, twelve + " a1", 12)
        self.check_position(parse_line_counts, twelve + " ", 12)

    def test_contents(self):
        for text, position in (("a1 a2", 1), ("a1-3 a4-5", 1), ("a1 b1 b2", 2), ("a1 a1 a2", 2)):
            self.check_position(parse_content, text, position)
        for text in ("a1 a1", "a2 a1", "a1 a3", "a1 b2 a2", "a1-3 a5", "b1 a1", "a1 aa2"):
            self.assertEqual(format_content(parse_content(text)), text)

    def test_line_sets(self):
        for text, position in (("a1 a2", 1), ("a1-3 a4", 1), ("a1-3 a2", 1), ("a2 a1", 1), ("a1 a1", 1),
                               ("b1 a1", 1), ("a1 b1 a3", 2), ("a1 a3 a4-5", 2), ("aa1 a1", 1),
                               ("a5 a1-2", 1), ("a1-5 a2-3", 1)):
            self.check_position(parse_line_set, text, position)
        for text in ("a1 a3", "a1-3 a5", "a1 aa1", "a1 b1", "a1 a3 b1 b3-4 c9"):
            self.assertEqual(format_line_set(parse_line_set(text)), text)

    def test_values_that_are_not_strings(self):
        for value in odd_values():
            if not isinstance(value, str):
                for parse in PARSERS:
                    self.check_position(parse, value, None)
        for value in (b"a1", ["a1"], {"a1": 1}, ("a1",), 1, None):
            for parse in PARSERS:
                self.check_position(parse, value, None)


class ScheduleTest(FormatTest):
    """[91] and [92]"""

    def test_wrong_actions(self):
        for action in ("", "read", "read ", "reada", "read a ", " read a", "read  a", "read A", "read a1",
                       "read a b", "Read a", "save", "save abcdefghi", "append a", "append a 0",
                       "append a 01", "append a +1", "append a -1", "append a 1.0", "append a 1 ",
                       "append 1 a", "append a b", f"append a {MOST + 1}", "append a " + "1" * 32,
                       "append a 1 2", "read a 1", "save a 2", "leave a", "undo", "read\ta", "read a\n",
                       "read a;", "append a \u0661", "append a 1,", "append  a 1", "read \u00e4"):
            self.check_position(parse_schedule, "read a, " + action, 1)
            if action:
                self.check_position(parse_schedule, action, 0)
                self.check_position(parse_schedule, action + ", read a", 0)

    def test_wrong_gaps(self):
        for text, position in ((",", 0), (", ", 0), ("read a,", 0), ("read a, ", 1), ("read a,read b", 0),
                               ("read a , read b", 0), ("read a,  read b", 1), (", read a", 0),
                               ("read a, , read b", 1), ("read a; read b", 0), (" ", 0),
                               ("read a read b", 0), ("read a,\nread b", 0)):
            self.check_position(parse_schedule, text, position)

    def test_drawn_schedules(self):
        chance = random.Random(91)
        for _ in range(100):
            counts = {name: chance.choice([1, 4, MOST]) for name in ("a", "bo", "abcdefgh")}
            schedule = random_schedule(chance, counts, chance.randint(0, 20))
            text = format_schedule(schedule)
            self.assertEqual(parse_schedule(text), schedule)
            self.assertEqual(text, ", ".join(" ".join(map(str, action)) for action in schedule))


class StateTest(FormatTest):
    """[91] and [92]"""

    def test_wrong_states(self):
        for text, position in (
                ("", 0), (" ", 0), (" | ", 0), ("a1 | ", None), ("a1 |", 0), ("a1|a1", 0), ("a1| a1", 0),
                ("a1 | a1 | ", 2), ("a1 | a1 |", 1), ("a1 |  | ", 2), ("a1 |  |", 1), ("a1 | | a:", 1),
                ("a1 |   | a:", 1), ("a1 a1 | ", 0), ("b1 a1 | a1", 0), ("a1 | a1 a2", 1),
                ("a1 | a1-1", 1), ("a1 | a1  b1", 1), ("a1 | a1 | b:", 2), ("a1 | a1 | a: ", 2),
                ("a1 | a1 | a:  a1", 2), ("a1 | a1 | a:a1", 2), ("a1 | a1 | a : a1", 2),
                ("a1 | a1 | a: a1 ", 2), ("a1 | a1 | a: a1 a2", 2), ("a1 | a1 | a", 2),
                ("a1 b1 |  | b: | a:", 3), ("a1 b1 |  | a: | a:", 3), ("a1 b1 |  | a: | b: | c:", 4),
                ("a1 b1 |  | a: a1 | b", 3), ("a1 |  |  | a:", 2), ("A1 | ", 0), ("a01 | a1", 0),
                ("a1 | empty", 1), ("a1 | a1 | A:", 2), ("a1 | a1 | :", 2), ("a1 | a1 | : a1", 2),
                ("a1 | a1 | a::", 2), ("a1 | a1 | a: a1:", 2), ("a1  | a1", 0), ("a1 |  a1", 1),
                ("a1 | a1  | a:", 1), ("a1 | a1 |  a:", 2), ("a1\n | a1", 0)):
            if position is None:
                self.assertEqual(parse_state(text), ({"a": 1}, [], {}))
            else:
                self.check_position(parse_state, text, position)

    def test_a_state_without_a_page(self):
        for text in ("a1", "a1 b2", f"a{MOST}"):
            self.check_position(parse_state, text, 1)
        for text in ("a1 ", "a1-2", "x", "a1 b", "1"):
            self.check_position(parse_state, text, 0)

    def test_twelve_copies(self):
        saved = {letter: 0 for letter in LETTERS}
        state = (saved, [], {letter: [] for letter in LETTERS})
        text = format_state(state)
        self.assertEqual(parse_state(text), state)
        self.check_position(parse_state, text + " | m:", 14)

    def test_drawn_states(self):
        chance = random.Random(92)
        for _ in range(200):
            counts = {name: chance.choice([1, 2, 5]) for name in chance.sample(LETTERS, 4)}
            holders = chance.sample(sorted(counts), chance.randint(0, 4))
            state = (counts, random_content(chance, counts, 4),
                     {holder: random_content(chance, counts, 3) for holder in holders})
            text = format_state(state)
            self.assertEqual(parse_state(text), state)
            parts = text.split(" | ")
            self.assertEqual(parts[:2], [format_line_counts(counts), format_content(state[1])])
            self.assertEqual([part.split(":")[0] for part in parts[2:]], sorted(holders))


def content_pattern(text):
    """Whether a text is a content, by a pattern."""
    return re.fullmatch(r"([a-z]{1,8}[1-9][0-9]*(-[1-9][0-9]*)?( (?=[a-z])|$))*", text) is not None


class RoundTest(FormatTest):
    """What was formatted is parsed to the value again; what is parsed is the text again."""

    def test_drawn_values(self):
        chance = random.Random(90)
        for _ in range(200):
            counts = {name: chance.choice([0, 1, 7, 12])
                      for name in chance.sample(["a", "b", "aa", "zz", "longname"], 3)}
            self.assertEqual(parse_line_counts(format_line_counts(counts)), counts)
            if any(counts.values()):
                content = random_content(chance, counts, 6)
                self.assertEqual(parse_content(format_content(content)), content)
            lines = [(name, number) for name in counts for number in range(1, counts[name] + 1)]
            line_set = line_set_of(chance.sample(lines, chance.randint(0, len(lines))))
            self.assertEqual(parse_line_set(format_line_set(line_set)), line_set)

    def test_all_line_sets(self):
        texts = set()
        for lines in all_line_sets({"a": 4, "b": 3}):
            line_set = line_set_of(lines)
            text = format_line_set(line_set)
            self.assertEqual(parse_line_set(text), line_set)
            texts.add(text)
        self.assertEqual(len(texts), 2 ** 7)

    def test_all_short_texts(self):
        """A text is parsed only if it is the text of the value that it is parsed to."""
        found = dict.fromkeys(PARSERS, 0)
        signs = "ab12-: |,"
        for length in range(5):
            for letters in itertools.product(signs, repeat=length):
                text = "".join(letters)
                for parse in PARSERS:
                    write = getattr(formats, parse.__name__.replace("parse", "format"))
                    try:
                        value = parse(text)
                    except InvalidFormat as error:
                        self.assertIs(type(error.position), int)
                        continue
                    self.assertEqual(write(value), text)
                    found[parse] += 1
        self.assertGreater(found[parse_content], 20)
        self.assertGreater(found[parse_line_counts], 10)

    def test_changed_texts(self):
        chance = random.Random(901)
        for _ in range(1500):
            counts = {"a": 12, "bo": 3}
            text = format_content(random_content(chance, counts, 4))
            at = chance.randint(0, len(text))
            sign = chance.choice(["", " ", "-", "0", "1", "a", "Z", ","])
            changed = text[:at] + sign + text[at + chance.randint(0, 1):]
            try:
                content = parse_content(changed)
            except InvalidFormat as error:
                words = changed.split(" ")
                self.assertLess(error.position, len(words))
                # The words before the position are a content of their own.
                before = " ".join(words[:error.position])
                self.assertEqual(format_content(parse_content(before)), before)
            else:
                self.assertEqual(format_content(content), changed)
                self.assertTrue(content_pattern(changed))

    def test_results_are_new_objects(self):
        for parse, text in ((parse_line_counts, "a1"), (parse_content, "a1"), (parse_line_set, "a1"),
                            (parse_schedule, "read a")):
            first = parse(text)
            kept = parse(text)
            first.clear()
            self.assertEqual(parse(text), kept)
        state = parse_state("a1 | a1 | a: a1")
        state[2]["a"].clear()
        state[1].clear()
        self.assertEqual(parse_state("a1 | a1 | a: a1"), ({"a": 1}, [("a", 1, 1)], {"a": [("a", 1, 1)]}))


if __name__ == "__main__":
    unittest.main()
