"""Points 93 to 95: the command interpreter."""

import random
import unittest

from lastcopy.commands import Interpreter
from lastcopy.errors import (
    DuplicateName, EmptyHistory, InvalidAction, InvalidCommand, InvalidContent, InvalidFormat,
    InvalidInteger, LastCopyError, UnknownName, UnknownWriter,
)
from lastcopy.formats import (
    format_content, format_line_counts, format_line_set, format_schedule, parse_content,
)
from lastcopy.page import Page
from lastcopy.states import finality_obstructions
from tests.pages import perform_on_page
from tests.support import odd_values, random_content

MOST = 10 ** 30
ACTIONS = ["read", "save", "append", "leave", "undo", "redo"]
QUESTIONS = ["content", "overwrites", "counts", "guaranteed", "lost", "bases", "schedule"]


class CommandTest(unittest.TestCase):
    def interpreter(self, *commands):
        interpreter = Interpreter()
        for command in commands:
            self.assertEqual(interpreter.execute(command), "ok", command)
        return interpreter

    def check(self, interpreter, command, expected):
        answer = interpreter.execute(command)
        self.assertIs(type(answer), str)
        self.assertEqual(answer, expected, command)

    def check_error(self, interpreter, command, error, **fields):
        """The error and its fields, and that nothing changes."""
        before = self.answers(interpreter)
        with self.assertRaises(LastCopyError) as caught:
            interpreter.execute(command)
        self.assertIs(type(caught.exception), error, command)
        for name, value in fields.items():
            self.assertEqual(getattr(caught.exception, name), value, command)
        self.assertEqual(self.answers(interpreter), before)

    def answers(self, interpreter):
        """What all pages answer."""
        found = [interpreter.execute("list")]
        for name in found[0].split(" "):
            if found[0] != "none":
                found += [interpreter.execute(word + " " + name) for word in QUESTIONS]
        return found


class ExampleTest(CommandTest):
    def test_examples(self):
        p = self.interpreter("create p a2 b1", "append p a 1", "read p b")
        self.check(p, "bases p", "-: a1 ; b: a1")
        self.check_error(p, "final p a1 a2", InvalidFormat, position=1)


class AnswerTest(CommandTest):
    """[93] and [94]"""

    def test_list(self):
        p = Interpreter()
        self.check(p, "list", "none")
        for name in ("b", "aa", "a", "longname"):
            self.check(p, f"create {name} a1", "ok")
        self.check(p, "list", "a aa b longname")
        self.check(p, "delete aa", "ok")
        self.check(p, "list", "a b longname")
        self.check(p, "fork b c", "ok")
        self.check(p, "list", "a b c longname")
        for name in ("a", "b", "c", "longname"):
            self.check(p, "delete " + name, "ok")
        self.check(p, "list", "none")

    def test_a_new_page(self):
        p = self.interpreter("create p a3 bo0")
        for command, expected in (
                ("content p", "empty"), ("copy p a", "none"), ("remaining p a", "3"),
                ("remaining p bo", "0"), ("overwrites p", "0"), ("counts p", "a3 bo0"),
                ("guaranteed p", "a1-3"), ("lost p", "none"), ("bases p", "-: empty"),
                ("final p a1-3", "yes"), ("final p empty", "no base"), ("final p a1", "no end"),
                ("schedule p", "none")):
            self.check(p, command, expected)

    def test_actions(self):
        p = self.interpreter("create p a3 b2", "read p a", "append p b 1", "save p a", "read p b")
        for command, expected in (
                ("content p", "a1"), ("copy p b", "a1"), ("copy p a", "none"), ("overwrites p", "1"),
                ("remaining p a", "2"), ("remaining p b", "1"), ("counts p", "a3 b2"),
                ("guaranteed p", "a1"), ("lost p", "b1"), ("bases p", "-: a1 ; b: a1"),
                ("final p a1-3", "yes"), ("final p a1 b2", "yes"), ("final p a1-2", "no end next"),
                ("final p a1-2 b2", "no copy next"), ("final p empty", "no base base"),
                ("schedule p", "read a, append b 1, save a, read b"), ("leave p b", "ok"),
                ("schedule p", "read a, append b 1, save a, read b, leave b"), ("counts p", "a3 b1"),
                ("bases p", "-: a1"), ("guaranteed p", "a1-3"), ("undo p", "ok"), ("copy p b", "a1"),
                ("redo p", "ok"), ("copy p b", "none"), ("undo p", "ok"), ("undo p", "ok"),
                ("schedule p", "read a, append b 1, save a"), ("content p", "a1")):
            self.check(p, command, expected)

    def test_empty_copies_and_bases(self):
        p = self.interpreter("create p a1 b1", "read p b", "read p a")
        self.check(p, "bases p", "a: empty ; b: empty")
        self.check(p, "copy p a", "empty")
        self.check(p, "final p b1 a1", "no next copy")
        self.check(p, "guaranteed p", "none")

    def test_no_line_left(self):
        p = self.interpreter("create p a2", "append p a 2")
        self.check(p, "bases p", "-: a1-2")
        self.check(p, "final p a1-2", "yes")
        self.check(p, "final p a1", "no base")
        p = self.interpreter("create p a0")
        self.check(p, "final p empty", "yes")
        self.check(p, "guaranteed p", "none")

    def test_line_sets(self):
        p = self.interpreter("create p a5 b2", "append p a 2", "read p a", "append p b 1", "save p a",
                             "leave p b")
        self.check(p, "content p", "a1-3")
        self.check(p, "guaranteed p", "a1-5")
        self.check(p, "lost p", "b1")
        p = self.interpreter("create p a5 b2", "read p b", "append p a 3", "save p b", "append p a 1")
        self.check(p, "content p", "b1 a4")
        self.check(p, "lost p", "a1-3")
        self.check(p, "guaranteed p", "a4 b1")

    def test_forks_are_independent(self):
        p = self.interpreter("create p a2", "append p a 1", "fork p q", "append q a 1")
        self.check(p, "content p", "a1")
        self.check(p, "content q", "a1-2")
        self.check(p, "undo p", "ok")
        self.check(p, "schedule q", "append a 1, append a 1")
        self.check(p, "delete p", "ok")
        self.check(p, "undo q", "ok")
        self.check(p, "undo q", "ok")
        self.check_error(p, "undo q", EmptyHistory)
        self.check(p, "create p b1", "ok")
        self.check(p, "counts p", "b1")

    def test_interpreters_are_independent(self):
        p, q = self.interpreter("create p a1"), Interpreter()
        self.check(q, "list", "none")
        self.check(p, "list", "p")

    def test_large_numbers(self):
        p = self.interpreter(f"create p a{MOST} b1", f"append p a {MOST - 1}")
        self.check(p, "content p", f"a1-{MOST - 1}")
        self.check(p, "remaining p a", "1")
        self.check_error(p, f"append p a {MOST}", InvalidAction, position=1)
        self.check_error(p, "append p a " + "9" * 31, InvalidAction, position=1)
        self.check(p, f"final p a1-{MOST}", "yes")

    def test_names_that_are_words(self):
        p = self.interpreter("create list a1", "create empty empty1", "read empty empty")
        self.check(p, "list", "empty list")
        self.check(p, "content list", "empty")
        self.check(p, "copy empty empty", "empty")
        self.check(p, "schedule empty", "read empty")


class ErrorTest(CommandTest):
    """[95]"""

    def page(self):
        return self.interpreter("create p a2 b1", "append p a 1", "read p b", "read p a", "undo p")

    def test_no_strings(self):
        p = self.page()
        for value in odd_values() + [b"list", ["list"], ("list",), 1, None, True]:
            if not isinstance(value, str):
                self.check_error(p, value, InvalidCommand)

    def test_no_commands(self):
        p = self.page()
        for command in (
                "", " ", "  ", "list ", " list", "list  ", "list p", "List", "lists", "create", "create p",
                "create p ", "create  p a1", "create p  a1", "create p a1 ", "create p a1  b1", "create P a1",
                "create p1 a1", "create abcdefghi a1", "create \u00e4 a1", "delete", "delete p q", "delete p ",
                "fork p", "fork p q r", "fork p Q", "fork p abcdefghi", "read p", "read p a b", "read p A",
                "read p abcdefghi", "read p a1", "read  p a", "read p a ", " read p a", "save p", "save p a 1",
                "append p a", "append p a b", "append p a 01", "append p a +1", "append p a -1",
                "append p a 1.0", "append p a " + "1" * 32, "append p a 1 1", "append p a 00",
                "append p a \u0661", "append p a 1 ", "leave p", "leave p a b", "undo", "undo p p", "redo",
                "redo p 1", "content", "content p p", "copy p", "copy p a a", "copy p 1", "remaining p",
                "remaining p a a", "overwrites", "overwrites p p", "counts", "counts p p", "guaranteed",
                "guaranteed p p", "lost", "lost p p", "bases", "bases p p", "final", "final p", "final p ",
                "final p a1  b1", "final  p a1", "final p  empty", "final p empty ", "schedule",
                "schedule p p", "state p", "quit", "read\tp\ta", "list\n", "\nlist", "delete p\n"):
            self.check_error(p, command, InvalidCommand)

    def test_unknown_names(self):
        p = self.page()
        for command in ("delete q", "fork q r", "fork q p", "fork q q", "read q a", "save q zz",
                        "append q a 0", "leave q a", "undo q", "redo q", "content q", "copy q a",
                        "remaining q a", "overwrites q", "counts q", "guaranteed q", "lost q", "bases q",
                        "final q a1", "final q a1 a2", "final q ???", "final q empty", "schedule q"):
            self.check_error(p, command, UnknownName)

    def test_names_that_are_taken(self):
        p = self.page()
        for command in ("create p a1", "create p ???", "create p a1 a1", "fork p p"):
            self.check_error(p, command, DuplicateName)
        self.check(p, "fork p q", "ok")
        self.check_error(p, "fork p q", DuplicateName)
        self.check_error(p, "create q b2", DuplicateName)

    def test_formats(self):
        p = self.page()
        for words, position in (("???", 0), ("a", 0), ("a1 a1", 1), ("a1 b1-2", 1), ("b1 a1", 1),
                                ("empty", 0), ("a01", 0), ("a1 c\t1", 1), ("a1,b1", 0), ("a1\n", 0),
                                (" ".join(letter + "1" for letter in "abcdefghijklm"), 12)):
            self.check_error(p, "create q " + words, InvalidFormat, position=position)
        for words, position in (("???", 0), ("a0", 0), ("a1-1", 0), ("a1 a2", 1), ("a1 b1 empty", 2),
                                ("empty empty", 0), ("empty a1", 0), ("none", 0), ("a1, b1", 0)):
            self.check_error(p, "final p " + words, InvalidFormat, position=position)

    def test_errors_of_the_page(self):
        p = self.page()
        for command in ("read p c", "save p zz", "append p c 0", "append p c 1", "leave p c",
                        "copy p c", "remaining p zz"):
            self.check_error(p, command, UnknownWriter, writer=command.split(" ")[2])
        self.check_error(p, "append p a 0", InvalidInteger)
        self.check_error(p, "append p b 0", InvalidInteger)
        for command in ("read p b", "save p a", "append p b 1", "append p a 2"):
            self.check_error(p, command, InvalidAction, position=2)
        for command in ("final p c1", "final p a3", "final p a1-3", "final p b2"):
            self.check_error(p, command, InvalidContent)
        self.check(p, "redo p", "ok")
        self.check_error(p, "redo p", EmptyHistory)
        for _ in range(3):
            self.check(p, "undo p", "ok")
        self.check_error(p, "undo p", EmptyHistory)

    def test_redo_after_errors(self):
        p = self.page()
        for command in ("read p b", "append p a 0", "read p c", "final p a9", "create q a1 a1", "redo", ""):
            with self.assertRaises(LastCopyError):
                p.execute(command)
        self.check(p, "redo p", "ok")
        self.check(p, "copy p a", "a1")

    def test_classes_below_str(self):
        class Text(str):
            def split(self, *rest):
                return ["list"]

        p = self.page()
        self.check(p, Text("content p"), "a1")
        self.check_error(p, Text("content  p"), InvalidCommand)


def page_answer(page, words):
    """What a page that the test keeps itself answers to the words of a command without its name."""
    first, rest = words[0], words[1:]
    if first in ("undo", "redo"):
        getattr(page, first)()
        return "ok"
    if first in ACTIONS:
        perform_on_page(page, (first, rest[0]) + tuple(map(int, rest[1:])))
        return "ok"
    if first == "copy":
        held = page.held_copy(rest[0])
        return "none" if held is None else format_content(held) or "empty"
    if first == "remaining":
        return str(page.remaining(rest[0]))
    if first == "final":
        content = [] if rest == ["empty"] else parse_content(" ".join(rest))
        page.can_become_final(content)
        words = finality_obstructions(page.line_counts(), page.state(), content)
        return "yes" if words is None else " ".join(["no"] + [word for _, word, _ in words])
    if first == "schedule":
        texts = ["leave " + action[1] if action[0] == "leave" else format_schedule([action])
                 for action in page.schedule()]
        return ", ".join(texts) or "none"
    return {
        "content": lambda: format_content(page.content()) or "empty",
        "overwrites": lambda: str(page.overwrite_count()),
        "counts": lambda: format_line_counts(page.line_counts()),
        "guaranteed": lambda: format_line_set(page.guaranteed_lines()) or "none",
        "lost": lambda: format_line_set(page.permanently_lost()) or "none",
        "bases": lambda: " ; ".join(f"{holder or '-'}: {format_content(runs) or 'empty'}"
                                    for holder, runs in page.possible_bases()),
    }[first]()


class SeveralPagesTest(CommandTest):
    """One interpreter with several pages against one interpreter for each page, and pages."""

    def draw(self, chance, counts):
        word = chance.choice(ACTIONS * 3 + QUESTIONS + ["copy", "remaining", "final"] * 2)
        if word == "final":
            content = random_content(chance, counts, 3)
            return [word] + (format_content(content) or "empty").split(" ")
        if word in ("undo", "redo") or word in QUESTIONS:
            return [word]
        more = [str(chance.randint(0, 3))] if word == "append" else []
        return [word, chance.choice(sorted(counts) + ["z"])] + more

    def result(self, call, *arguments):
        """The answer of a call, or its error with the fields."""
        try:
            return call(*arguments)
        except LastCopyError as error:
            return type(error), vars(error)

    def test_drawn_commands(self):
        chance = random.Random(93)
        errors = 0
        for _ in range(40):
            counts = {name: chance.randint(1, 4) for name in chance.sample("abcd", 2)}
            together = Interpreter()
            alone, pages = {}, {}
            for name in ("p", "q", "r"):
                create = f"create {name} {format_line_counts(counts)}"
                alone[name] = self.interpreter(create)
                self.check(together, create, "ok")
                pages[name] = Page(counts)
            for _ in range(60):
                name = chance.choice(["p", "q", "r"])
                words = self.draw(chance, counts)
                command = " ".join([words[0], name] + words[1:])
                answer = self.result(together.execute, command)
                self.assertEqual(answer, self.result(alone[name].execute, command))
                self.assertEqual(answer, self.result(page_answer, pages[name], words))
                errors += type(answer) is tuple
        self.assertGreater(errors, 100)


if __name__ == "__main__":
    unittest.main()
