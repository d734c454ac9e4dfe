"""Points 84 to 89: the interactive page."""

import copy
import random
import time
import unittest

from lastcopy.errors import (
    EmptyHistory, InvalidAction, InvalidContent, InvalidInteger, InvalidLineCounts, UnknownWriter,
)
from lastcopy.final import can_be_final
from lastcopy.page import Page, replay
from lastcopy.schedules import count_overwrites, is_schedule, state_after
from lastcopy.states import (
    can_become_final, guaranteed_lines, is_state, permanently_lost, possible_bases,
    reachable_final_contents,
)
from tests.calls import bad_counts
from tests.pages import (
    Impossible, PageModel, answers_of, answers_of_model, perform_on_page, random_action,
)
from tests.support import Prickly, odd_values, random_content

MOST = 10 ** 30
LETTERS = "abcdefghijkl"


def overwritten_page():
    page = Page({"a": 2, "b": 1})
    page.read_page("a")
    page.append_lines("b", 1)
    page.save_line("a")
    return page


class PageTest(unittest.TestCase):
    def check_impossible(self, position, call, *arguments):
        with self.assertRaises(InvalidAction) as caught:
            call(*arguments)
        self.assertEqual(caught.exception.position, position)

    def check_unknown(self, writer, call, *arguments):
        with self.assertRaises(UnknownWriter) as caught:
            call(writer, *arguments)
        self.assertIs(caught.exception.writer, writer)


class ExampleTest(PageTest):
    def test_actions(self):
        page = Page({"a": 2, "b": 1})
        self.check_impossible(0, page.save_line, "a")
        self.check_unknown("c", page.append_lines, 0)
        self.assertIsNone(page.read_page("a"))
        self.assertIsNone(page.leave("a"))
        self.assertEqual([page.line_counts(), page.schedule()],
                         [{"a": 0, "b": 1}, [("read", "a"), ("leave", "a")]])

    def test_state_and_overwrites(self):
        page = overwritten_page()
        self.assertEqual(page.state(), ({"a": 1, "b": 1}, [("a", 1, 1)], {}))
        self.assertEqual(page.overwrite_count(), 1)

    def test_undo_and_redo(self):
        page = overwritten_page()
        self.assertIsNone(page.undo())
        self.assertEqual([page.content(), page.held_copy("a"), len(page)], [[("b", 1, 1)], [], 2])
        self.assertIsNone(page.redo())
        with self.assertRaises(EmptyHistory):
            page.redo()

    def test_replay(self):
        with self.assertRaises(InvalidAction) as caught:
            replay({"a": 1}, [("read", "a"), ("read", "a")])
        self.assertEqual(caught.exception.position, 1)

    def test_lines(self):
        page = overwritten_page()
        self.assertEqual([page.guaranteed_lines(), page.permanently_lost()],
                         [{"a": [(1, 2)]}, {"b": [(1, 1)]}])


class NewPageTest(PageTest):
    """[84]"""

    def test_a_new_page(self):
        for counts in ({"a": 0}, {"b": 3, "a": MOST}, {letter: 1 for letter in LETTERS}):
            page = Page(counts)
            self.assertEqual(page.line_counts(), counts)
            self.assertEqual(page.content(), [])
            self.assertEqual(page.state(), ({name: 0 for name in counts}, [], {}))
            self.assertEqual([page.held_copy(name) for name in counts], [None] * len(counts))
            self.assertEqual([page.remaining(name) for name in counts], list(counts.values()))
            self.assertEqual((page.overwrite_count(), page.schedule(), len(page)), (0, [], 0))
            self.assertEqual(page.possible_bases(), [(None, [])])
            for call in (page.undo, page.redo):
                with self.assertRaises(EmptyHistory):
                    call()

    def test_wrong_line_counts(self):
        for value in bad_counts() + odd_values():
            with self.assertRaises(InvalidLineCounts):
                Page(value)
            with self.assertRaises(InvalidLineCounts):
                replay(value, None)

    def test_the_line_counts_are_not_kept(self):
        counts = {"a": 1}
        page = Page(counts)
        counts["a"] = 5
        counts["b"] = 1
        self.assertEqual(page.line_counts(), {"a": 1})
        page.line_counts()["a"] = 7
        self.assertEqual(page.line_counts(), {"a": 1})


class ErrorTest(PageTest):
    """[84] and [85]"""

    def test_unknown_writers(self):
        page = overwritten_page()
        before = answers_of(page)
        for writer in odd_values() + ["c", "ab", "A", "", 1, ("a",), ["a"], "a ", "aa"]:
            for call in (page.read_page, page.save_line, page.leave, page.held_copy, page.remaining):
                self.check_unknown(writer, call)
            for count in (0, 1, None, True, Prickly()):
                self.check_unknown(writer, page.append_lines, count)
        self.assertEqual(answers_of(page), before)

    def test_wrong_counts(self):
        page = overwritten_page()
        page.undo()
        before = answers_of(page)
        for count in odd_values() + [0, -1, -MOST, True, False, 1.0, "1", [1], (1,), None, {}]:
            # Writer a holds a copy, so that no append is possible, either.
            for writer in "ab":
                with self.assertRaises(InvalidInteger):
                    page.append_lines(writer, count)
        self.assertEqual(answers_of(page), before)
        page.redo()

    def test_actions_that_are_not_possible(self):
        page = Page({"a": 3, "b": 1, "n": 0})
        for call, arguments in (
                (page.save_line, "a"), (page.read_page, "n"), (page.append_lines, ("n", 1)),
                (page.append_lines, ("a", 4)), (page.append_lines, ("a", 10 ** 40))):
            self.check_impossible(0, call, *arguments)
        page.read_page("a")
        self.check_impossible(1, page.read_page, "a")
        self.check_impossible(1, page.append_lines, "a", 1)
        page.append_lines("b", 1)
        self.check_impossible(2, page.read_page, "b")
        self.check_impossible(2, page.append_lines, "b", 1)
        page.leave("a")
        for call in (page.read_page, page.save_line, page.leave):
            self.check_impossible(3, call, "a")
        self.check_impossible(3, page.append_lines, "a", 1)
        self.assertEqual((page.remaining("a"), page.held_copy("a")), (0, None))
        page.leave("n")
        page.leave("b")
        self.check_impossible(5, page.leave, "b")
        self.assertEqual(page.schedule(), [("read", "a"), ("append", "b", 1), ("leave", "a"),
                                           ("leave", "n"), ("leave", "b")])

    def test_redo_after_errors(self):
        page = overwritten_page()
        page.undo()
        page.undo()
        before = answers_of(page)
        self.check_impossible(1, page.read_page, "a")
        self.check_unknown("z", page.save_line)
        with self.assertRaises(InvalidInteger):
            page.append_lines("b", 0)
        with self.assertRaises(InvalidContent):
            page.can_become_final([("b", 2, 2)])
        self.assertEqual(answers_of(page), before)
        page.redo()
        page.redo()
        self.assertEqual(answers_of(page), answers_of(overwritten_page()))
        with self.assertRaises(EmptyHistory):
            page.redo()
        self.assertEqual(answers_of(page), answers_of(overwritten_page()))

    def test_another_action_ends_redo(self):
        page = overwritten_page()
        page.undo()
        page.leave("b")
        with self.assertRaises(EmptyHistory):
            page.redo()
        self.assertEqual(page.schedule(), [("read", "a"), ("append", "b", 1), ("leave", "b")])


class ModelTest(PageTest):
    """[84] to [88]: pages against pages that are kept line by line."""

    def check(self, page, model):
        answers = answers_of(page)
        self.assertEqual(answers[:-3], answers_of_model(model))
        counts, state = page.line_counts(), page.state()
        self.assertIs(is_state(counts, state), True)
        self.assertEqual(answers[-3:], (possible_bases(counts, state), guaranteed_lines(counts, state),
                                        permanently_lost(counts, state)))

    def step(self, chance, page, model, counts):
        word = chance.choice(["action"] * 6 + ["undo", "redo"])
        if word == "action":
            action = random_action(chance, counts)
            try:
                model.perform(action)
            except Impossible:
                self.check_impossible(len(model.done), perform_on_page, page, action)
            else:
                perform_on_page(page, action)
            return
        try:
            getattr(model, word)()
        except Impossible:
            with self.assertRaises(EmptyHistory):
                getattr(page, word)()
        else:
            getattr(page, word)()

    def test_drawn_actions(self):
        chance = random.Random(84)
        for _ in range(60):
            counts = {name: chance.randint(0, 5) for name in chance.sample(LETTERS, 3)}
            pages = [(Page(counts), PageModel(counts))]
            for _ in range(40):
                page, model = chance.choice(pages)
                self.step(chance, page, model, counts)
                if chance.random() < 0.05:
                    pages.append((page.fork(), model.fork()))
                for page, model in pages:
                    self.check(page, model)

    def test_all_actions_undone_and_redone(self):
        chance = random.Random(86)
        for _ in range(40):
            counts = {name: chance.randint(0, 5) for name in "abc"}
            page, model = Page(counts), PageModel(counts)
            history = [answers_of(page)]
            for _ in range(30):
                action = random_action(chance, counts)
                try:
                    model.perform(action)
                except Impossible:
                    continue
                perform_on_page(page, action)
                history.append(answers_of(page))
            for expected in history[-2::-1]:
                page.undo()
                self.assertEqual(answers_of(page), expected)
            for expected in history[1:]:
                page.redo()
                self.assertEqual(answers_of(page), expected)

    def test_schedules_without_leaves(self):
        chance = random.Random(85)
        for _ in range(60):
            counts = {name: chance.randint(0, 5) for name in "abc"}
            page = Page(counts)
            for _ in range(25):
                action = random_action(chance, counts)
                if action[0] != "leave":
                    try:
                        perform_on_page(page, action)
                    except InvalidAction:
                        pass
            schedule = page.schedule()
            self.assertIs(is_schedule(counts, schedule), True)
            self.assertEqual(page.state(), state_after(counts, schedule))
            self.assertEqual(page.overwrite_count(), count_overwrites(counts, schedule))

    def test_overwrites_of_writers_that_have_left(self):
        page = overwritten_page()
        page.leave("a")
        self.assertEqual(page.overwrite_count(), 1)
        self.assertEqual(page.line_counts(), {"a": 1, "b": 1})
        page.leave("b")
        self.assertEqual((page.overwrite_count(), page.content()), (1, [("a", 1, 1)]))

    def test_large_numbers(self):
        page = Page({"a": MOST, "b": MOST})
        page.read_page("b")
        page.append_lines("a", MOST - 1)
        self.assertEqual((page.content(), page.remaining("a")), ([("a", 1, MOST - 1)], 1))
        page.save_line("b")
        self.assertEqual((page.content(), page.overwrite_count()), ([("b", 1, 1)], 1))
        page.append_lines("b", MOST - 1)
        self.assertEqual(page.content(), [("b", 1, MOST)])
        self.check_impossible(4, page.append_lines, "a", 2)
        page.leave("a")
        self.assertEqual(page.line_counts(), {"a": MOST - 1, "b": MOST})
        self.assertEqual(page.permanently_lost(), {"a": [(1, MOST - 1)]})

    def test_a_long_history(self):
        page = Page({"a": MOST, "b": MOST})
        started = time.perf_counter()
        for _ in range(5000):
            page.append_lines("a", 1)
            page.append_lines("b", 2)
        self.assertEqual(len(page), 10000)
        self.assertEqual(len(page.content()), 10000)
        self.assertEqual(page.content()[-1], ("b", 9999, 10000))
        for _ in range(10000):
            page.undo()
        self.assertEqual(page.content(), [])
        for _ in range(10000):
            page.redo()
        self.assertEqual(page.remaining("b"), MOST - 10000)
        self.assertLess(time.perf_counter() - started, 10)


class OwnValueTest(PageTest):
    """Answers are new objects, and forks are independent."""

    def test_changed_answers_change_no_page(self):
        page = Page({"a": 4, "b": 2})
        for action in [("append", "a", 1), ("read", "b"), ("append", "a", 1), ("read", "a")]:
            perform_on_page(page, action)
        before = copy.deepcopy(answers_of(page))
        state = page.state()
        state[0].clear()
        state[1].append("spoilt")
        for held in state[2].values():
            held.append("spoilt")
        state[2].clear()
        page.line_counts().clear()
        page.content().append("spoilt")
        page.held_copy("b").append("spoilt")
        page.schedule().clear()
        for _, held in page.possible_bases():
            held.append("spoilt")
        page.possible_bases().clear()
        for listed in page.guaranteed_lines().values():
            listed.clear()
        page.permanently_lost()["a"] = []
        self.assertEqual(answers_of(page), before)
        page.undo()
        page.redo()
        self.assertEqual(answers_of(page), before)

    def test_forks(self):
        page = overwritten_page()
        page.undo()
        fork = page.fork()
        self.assertIs(type(fork), Page)
        self.assertEqual(answers_of(fork), answers_of(page))
        before = answers_of(page)
        fork.redo()
        self.assertEqual(answers_of(page), before)
        self.assertEqual(answers_of(fork), answers_of(overwritten_page()))
        page.leave("a")
        self.assertEqual(answers_of(fork), answers_of(overwritten_page()))
        fork.undo()
        fork.undo()
        fork.undo()
        self.assertEqual(len(page), 3)
        with self.assertRaises(EmptyHistory):
            fork.undo()
        with self.assertRaises(EmptyHistory):
            page.redo()
        for _ in range(3):
            fork.redo()
        self.assertEqual(answers_of(fork), answers_of(overwritten_page()))

    def test_a_fork_remembers_who_has_left(self):
        page = Page({"a": 1})
        page.leave("a")
        self.check_impossible(1, page.fork().leave, "a")


class EqualTest(PageTest):
    """[86]"""

    def test_pages_with_the_same_state(self):
        one, other = Page({"a": 2, "b": 1}), Page({"b": 1, "a": 2})
        self.assertTrue(one == other)
        self.assertFalse(one != other)
        one.append_lines("a", 2)
        self.assertFalse(one == other)
        self.assertTrue(one != other)
        other.append_lines("a", 1)
        other.read_page("a")
        self.assertFalse(one == other)
        other.save_line("a")
        # The histories differ, the states do not.
        self.assertTrue(one == other)
        self.assertNotEqual(len(one), len(other))
        one.read_page("b")
        self.assertFalse(one == other)
        one.undo()
        self.assertTrue(one == other)

    def test_line_counts_count(self):
        self.assertFalse(Page({"a": 1}) == Page({"a": 2}))
        self.assertFalse(Page({"a": 1}) == Page({"a": 1, "b": 0}))
        one, other = Page({"a": 2, "b": 1}), Page({"a": 2})
        one.leave("b")
        self.assertFalse(one == other)
        two = Page({"a": 2, "b": 0})
        self.assertTrue(one == two)

    def test_copies_count(self):
        one, other = Page({"a": 2, "b": 2}), Page({"a": 2, "b": 2})
        for page, first, second in ((one, "a", "b"), (other, "b", "a")):
            page.read_page(first)
            page.read_page(second)
        self.assertTrue(one == other)
        one.save_line("a")
        self.assertFalse(one == other)
        other.save_line("a")
        self.assertTrue(one == other)

    def test_other_values(self):
        page = Page({"a": 1})

        class Same:
            def __eq__(self, other):
                return True

        for value in [page.state(), page.line_counts(), None, 0, "page", Same(), [page], (page,), Page]:
            self.assertIs(page == value, False)
            self.assertIs(page != value, True)
        self.assertTrue(page == page)

    def test_not_hashable(self):
        with self.assertRaises(TypeError):
            hash(Page({"a": 1}))
        with self.assertRaises(TypeError):
            {Page({"a": 1})}

    def test_drawn_pages(self):
        chance = random.Random(861)
        pages = []
        for _ in range(40):
            page = Page({"a": 1, "b": 1})
            for _ in range(chance.randint(0, 5)):
                try:
                    perform_on_page(page, random_action(chance, {"a": 1, "b": 1}, 1))
                except InvalidAction:
                    pass
            pages.append(page)
        for one in pages:
            for other in pages:
                expected = (one.line_counts(), one.state()) == (other.line_counts(), other.state())
                self.assertIs(one == other, expected)


class ReplayTest(PageTest):
    """[87]"""

    def test_drawn_pages(self):
        chance = random.Random(87)
        for _ in range(60):
            counts = {name: chance.randint(0, 4) for name in "abc"}
            page = Page(counts)
            for _ in range(20):
                try:
                    perform_on_page(page, random_action(chance, counts))
                except InvalidAction:
                    pass
            schedule = page.schedule()
            kept = list(schedule)
            again = replay(counts, schedule)
            self.assertEqual(schedule, kept)
            self.assertEqual(answers_of(again), answers_of(page))
            schedule.clear()
            self.assertEqual(answers_of(again), answers_of(page))
            while len(again):
                again.undo()
            self.assertTrue(again == Page(counts))

    def test_not_a_list(self):
        for value in odd_values() + [(), {}, "read a", (("read", "a"),)]:
            if type(value) is not list:
                self.check_impossible(None, replay, {"a": 1}, value)

    def test_the_first_wrong_item(self):
        good = [("read", "a"), ("leave", "b")]
        for item in odd_values() + [
                ("read", "c"), ("leave", "c"), ("append", "a", 0), ("append", "a", True), ["leave", "a"],
                ("append", "a", -1), ("append", "c", 1), ("leave",), ("leave", "a", 1), ("leave", "A"),
                ("append", "a"), ("Leave", "a"), ("leave", None), ("leave", Prickly()), "leave a",
                ("read", "a"), ("append", "a", 1), ("read", "b"), ("leave", "b"), ("save", "b"),
                ("append", "b", 1), ("undo",), ("fork", "a")]:
            self.check_impossible(2, replay, {"a": 2, "b": 2}, good + [item, None])
            self.check_impossible(0, replay, {"n": 0}, [item])
        self.assertEqual(len(replay({"a": 2, "b": 2}, good)), 2)
        self.assertEqual(len(replay({"a": 2, "b": 2}, [])), 0)


class FutureTest(PageTest):
    """[88] and [89]"""

    def test_can_become_final(self):
        chance = random.Random(88)
        for _ in range(80):
            counts = {name: chance.randint(1, 3) for name in "abc"}
            page = Page(counts)
            for _ in range(chance.randint(0, 10)):
                try:
                    perform_on_page(page, random_action(chance, counts))
                except InvalidAction:
                    pass
            now, state = page.line_counts(), page.state()
            contents = [page.content()]
            if any(now.values()):
                contents.append(random_content(chance, now, 3))
            if sum(now.values()) - sum(state[0].values()) <= 7:
                contents += reachable_final_contents(now, state)[:20]
            for content in contents:
                expected = can_become_final(now, state, content)
                self.assertIs(page.can_become_final(content), expected)
                self.assertIs(page.can_become_final(tuple(content)), expected)

    def test_contents_of_the_current_line_counts(self):
        page = Page({"a": 3, "b": 1})
        self.assertIs(page.can_become_final([("a", 1, 3)]), True)
        page.append_lines("a", 1)
        page.leave("a")
        with self.assertRaises(InvalidContent):
            page.can_become_final([("a", 1, 3)])
        self.assertIs(page.can_become_final([("a", 1, 1), ("b", 1, 1)]), True)
        page.undo()
        self.assertIs(page.can_become_final([("a", 1, 3)]), True)
        for value in odd_values() + [[("c", 1, 1)], [("a", 4, 4)], [["a", 1, 1]], {}]:
            with self.assertRaises(InvalidContent):
                page.can_become_final(value)

    def test_every_action_but_leave(self):
        chance = random.Random(89)
        for _ in range(80):
            counts = {name: chance.randint(0, 3) for name in "abc"}
            page = Page(counts)
            for _ in range(14):
                before = self.future(page)
                action = random_action(chance, counts)
                try:
                    perform_on_page(page, action)
                except InvalidAction:
                    continue
                after = self.future(page)
                if action[0] != "leave":
                    self.assertLessEqual(before[0], after[0])
                    self.assertLessEqual(before[1], after[1])
                    if before[2] is not None and after[2] is not None:
                        self.assertTrue(all(content in before[2] for content in after[2]))

    def future(self, page):
        """The guaranteed and the lost lines, and the contents that can become final."""
        lines = [{(writer, number) for writer, listed in found.items() for first, last in listed
                  for number in range(first, last + 1)}
                 for found in (page.guaranteed_lines(), page.permanently_lost())]
        counts, state = page.line_counts(), page.state()
        if sum(counts.values()) - sum(state[0].values()) > 6:
            return lines + [None]
        return lines + [reachable_final_contents(counts, state)]

    def test_every_writer_leaves(self):
        chance = random.Random(891)
        for _ in range(100):
            counts = {name: chance.choice([0, 1, 3, MOST]) for name in chance.sample(LETTERS, 4)}
            page = Page(counts)
            for _ in range(chance.randint(0, 15)):
                try:
                    perform_on_page(page, random_action(chance, counts))
                except InvalidAction:
                    pass
            for writer in chance.sample(sorted(counts), 4):
                if ("leave", writer) not in page.schedule():
                    page.leave(writer)
            content, now = page.content(), page.line_counts()
            self.assertIs(can_be_final(now, content), True)
            self.assertEqual(reachable_final_contents(now, page.state()), [content])
            self.assertEqual(page.possible_bases(), [(None, content)])
            self.assertIs(page.can_become_final(content), True)
            lines = {writer: sum(last - first + 1 for name, first, last in content if name == writer)
                     for writer in now}
            kept = {writer: sum(last - first + 1 for first, last in listed)
                    for writer, listed in page.guaranteed_lines().items()}
            self.assertEqual(kept, {writer: many for writer, many in lines.items() if many})


if __name__ == "__main__":
    unittest.main()
