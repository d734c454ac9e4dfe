"""Points 66 to 71: what is certain about the order of the saves, and what covers a lost line."""

import itertools
import random
import unittest

from lastcopy.certainty import (
    certain_order, covering_runs, max_saves_before, min_saves_before, min_saves_between,
    orders_both_ways, possible_first_writers, possible_last_writers, schedule_covering,
)
from lastcopy.check_final import is_schedule_to_final
from lastcopy.check_observations import satisfies_constraints
from lastcopy.errors import (
    InvalidContent, InvalidLine, InvalidLineCounts, InvalidObservations,
)
from lastcopy.observations import is_consistent
from lastcopy.overwrites import gaps
from lastcopy.schedules import is_schedule, page_history
from tests.calls import bad_values
from tests.searches import (
    all_orders, complete_histories, lines_of, model_constraints, model_satisfies,
    order_of_segments,
)
from tests.support import (
    all_contents, compress, expand, odd_values, random_final, random_schedule, search_contents,
    steps,
)

MOST = 10 ** 30
LETTERS = "abcdefghijkl"
SEEN = [[("a", 1, 1)], [("b", 1, 1)], [("a", 1, 2)]]
C = {"a": 2, "b": 2}
NO_LINE = [possible_first_writers, possible_last_writers]
ONE_LINE = [min_saves_before, max_saves_before]
TWO_LINES = [certain_order, orders_both_ways, min_saves_between]


class ExampleTest(unittest.TestCase):
    def test_certain_order(self):
        self.assertIs(certain_order(C, SEEN, ("a", 2), ("b", 1)), False)
        self.assertIs(certain_order(C, SEEN, ("a", 1), ("b", 1)), True)
        self.assertIsNone(certain_order(C, SEEN, ("a", 2), ("b", 2)))
        with self.assertRaises(InvalidLine):
            certain_order(C, SEEN, ("a", 2), ("a", 2))

    def test_saves_before(self):
        self.assertEqual(min_saves_before(C, SEEN, ("a", 2)), 2)
        self.assertEqual(max_saves_before(C, SEEN, ("a", 2)), 3)

    def test_orders_both_ways(self):
        self.assertIsNone(orders_both_ways(C, SEEN, ("a", 1), ("b", 1)))

    def test_saves_between(self):
        self.assertEqual(min_saves_between(C, SEEN, ("a", 1), ("a", 2)), 1)
        self.assertEqual(min_saves_between(C, SEEN, ("a", 2), ("b", 2)), 0)

    def test_first_and_last(self):
        self.assertEqual(possible_first_writers(C, SEEN), ["a"])
        self.assertEqual(possible_last_writers(C, SEEN), ["a", "b"])

    def test_covering(self):
        counts = {"a": 3, "b": 3}
        content = [("a", 1, 1), ("b", 2, 2), ("a", 3, 3)]
        self.assertEqual(covering_runs(counts, content, ("b", 3)), [("a", 3, 3)])
        self.assertIsNone(schedule_covering(counts, content, ("b", 3), ("b", 2)))


class ErrorTest(unittest.TestCase):
    """The errors of 66 to 70, in their order."""

    def calls(self, counts, observations, first=("a", 1), second=("b", 1)):
        found = [lambda function=function, final=final: function(counts, observations, final=final)
                 for function in NO_LINE for final in (False, True)]
        found += [lambda function=function, final=final:
                  function(counts, observations, first, final=final)
                  for function in ONE_LINE for final in (False, True)]
        return found + [lambda function=function, final=final:
                        function(counts, observations, first, second, final=final)
                        for function in TWO_LINES for final in (False, True)]

    def check(self, error, *arguments):
        for call in self.calls(*arguments):
            with self.assertRaises(error):
                call()

    def test_line_counts_and_observations(self):
        for bad in bad_values("observations")[-25:] + odd_values()[:5]:
            self.check(InvalidObservations, C, bad, ("a", 3), ("a", 3))
            self.check(InvalidLineCounts, {"a": True}, bad, None, None)

    def test_observations_that_are_not_consistent(self):
        for observed in (SEEN[::-1], [[("a", 2, 2)]], [[("a", 1, 1), ("a", 1, 1)]],
                         [[("a", 1, 1), ("b", 1, 1)], [("b", 1, 1)]], [[("a", 1, 1)], []]):
            for line in [("a", 1), ("a", 3), None]:
                self.check(InvalidObservations, C, observed, line, line)

    def test_consistent_only_without_final(self):
        for observed in ([[("a", 1, 1)]], [[]], [[("b", 1, 2)], [("b", 1, 2), ("a", 1, 1)]]):
            for function in NO_LINE:
                function(C, observed)
                with self.assertRaises(InvalidObservations):
                    function(C, observed, final=True)
            for function in ONE_LINE:
                function(C, observed, ("a", 1))
                with self.assertRaises(InvalidObservations):
                    function(C, observed, None, final=True)
            for function in TWO_LINES:
                function(C, observed, ("a", 1), ("b", 1))
                with self.assertRaises(InvalidObservations):
                    function(C, observed, ("a", 1), ("a", 1), final=True)

    def test_lines(self):
        for line in odd_values() + [("a", 3), ("a", 0), ("c", 1), ["a", 1], ("a", True), ("a",),
                                    ("a", 1, 1), ("b", MOST)]:
            for function in ONE_LINE:
                with self.assertRaises(InvalidLine):
                    function(C, SEEN, line)
            for function in TWO_LINES:
                for lines in ((line, ("a", 1)), (("a", 1), line), (line, line)):
                    with self.assertRaises(InvalidLine):
                        function(C, SEEN, *lines)

    def test_equal_lines(self):
        for line in lines_of(C):
            for function in TWO_LINES:
                with self.assertRaises(InvalidLine):
                    function(C, SEEN, line, line)

    def test_final_is_passed_by_name(self):
        for call in (lambda: certain_order(C, SEEN, ("a", 1), ("b", 1), False),
                     lambda: min_saves_before(C, SEEN, ("a", 1), False),
                     lambda: possible_first_writers(C, SEEN, False)):
            with self.assertRaises(TypeError):
                call()


class SearchTest(unittest.TestCase):
    """All results against all orders of the lines."""

    def check(self, counts, observed, final, orders):
        for lines in itertools.permutations(lines_of(counts), 2):
            self.check_pair(counts, observed, final, orders, *lines)
        for line in lines_of(counts):
            places = sorted({order.index(line) for order in orders})
            self.assertEqual(min_saves_before(counts, observed, line, final=final), places[0])
            self.assertEqual(max_saves_before(counts, observed, line, final=final), places[-1])
            self.assertEqual(places, list(range(places[0], places[-1] + 1)))
        firsts = sorted({order[0][0] for order in orders if order})
        lasts = sorted({order[-1][0] for order in orders if order})
        self.assertEqual(possible_first_writers(counts, observed, final=final), firsts)
        self.assertEqual(possible_last_writers(counts, observed, final=final), lasts)

    def check_pair(self, counts, observed, final, orders, first, second):
        ways = {order.index(first) < order.index(second) for order in orders}
        expected = ways.pop() if len(ways) == 1 else None
        arguments = (counts, observed, first, second)
        self.assertIs(certain_order(*arguments, final=final), expected)
        between = min(abs(order.index(first) - order.index(second)) - 1 for order in orders)
        self.assertEqual(min_saves_between(*arguments, final=final), between)
        both = orders_both_ways(*arguments, final=final)
        if expected is not None:
            self.assertIsNone(both)
            return
        self.assertIs(type(both), tuple)
        for order, is_first in zip(both, (True, False), strict=True):
            self.assertIs(satisfies_constraints(counts, observed, order, final=final), True)
            lines = order_of_segments(order)
            self.assertIn(lines, orders)
            self.assertIs(lines.index(first) < lines.index(second), is_first)

    def test_all_pairs_of_contents(self):
        for counts in ({"a": 2}, {"a": 1, "b": 1}, {"a": 2, "b": 1, "n": 0}):
            contents = [compress(lines) for lines in all_contents(counts, 2)]
            orders = all_orders(counts)
            for observed in itertools.product(contents, repeat=2):
                for final in (False, True):
                    if is_consistent(counts, observed, final=final):
                        pairs = model_constraints(counts, observed, final)
                        self.check(counts, list(observed), final,
                                   [order for order in orders if model_satisfies(pairs, order)])

    def test_schedules_that_show_the_observations(self):
        chance = random.Random(66)
        for counts in ({"a": 2, "b": 2}, {"a": 2, "b": 1, "c": 1}, {"a": 3, "b": 1}):
            histories = complete_histories(counts)
            for _ in range(40):
                history = chance.choice(histories)
                observed = sorted(chance.choices(history.contents, k=chance.randint(1, 4)),
                                  key=history.places.get)
                final = chance.random() < 0.3
                if final:
                    observed[-1] = history.contents[-1]
                orders = {each.order for each in histories if each.shows(observed, final)}
                self.check(counts, [compress(lines) for lines in observed], final, sorted(orders))

    def test_no_lines(self):
        for final in (False, True):
            self.assertEqual(possible_first_writers({"a": 0, "b": 0}, [[]], final=final), [])
            self.assertEqual(possible_last_writers({"a": 0}, [[], []], final=final), [])

    def test_one_writer(self):
        counts = {"a": MOST}
        self.assertEqual(min_saves_before(counts, [[]], ("a", 5)), 4)
        self.assertEqual(max_saves_before(counts, [[]], ("a", 5)), 4)
        self.assertEqual(min_saves_between(counts, [[]], ("a", 5), ("a", MOST)), MOST - 6)
        self.assertEqual(min_saves_between(counts, [[]], ("a", MOST), ("a", 5)), MOST - 6)
        self.assertIs(certain_order(counts, [[]], ("a", 5), ("a", 4)), False)
        self.assertEqual(possible_last_writers(counts, [[("a", 1, MOST)]], final=True), ["a"])

    def test_large_numbers(self):
        counts = {"a": MOST, "b": MOST, "c": 1}
        observed = [[("a", 1, 7)], [("a", 1, 7), ("b", 3, MOST)]]
        self.assertEqual(min_saves_before(counts, observed, ("b", 3)), 2 + 7)
        self.assertEqual(max_saves_before(counts, observed, ("b", 3)), 2 + MOST + 1)
        self.assertEqual(min_saves_before(counts, observed, ("b", MOST)), MOST - 1 + 7)
        self.assertEqual(min_saves_before(counts, observed, ("a", MOST)), MOST - 1 + 2)
        self.assertEqual(max_saves_before(counts, observed, ("a", 1)), 2 + 1)
        self.assertEqual(max_saves_before(counts, observed, ("a", 7)), 6 + 2 + 1)
        self.assertEqual(max_saves_before(counts, observed, ("a", 8)), 7 + MOST + 1)
        self.assertEqual(min_saves_between(counts, observed, ("b", MOST), ("a", 1)), 6 + MOST - 3)
        self.assertIsNone(certain_order(counts, observed, ("b", MOST), ("a", MOST)))
        self.assertIs(certain_order(counts, observed, ("b", 2), ("a", 7)), True)
        self.assertEqual(possible_first_writers(counts, observed), ["a", "b", "c"])
        self.assertEqual(possible_last_writers(counts, observed), ["a", "b", "c"])
        both = orders_both_ways(counts, observed, ("b", MOST), ("a", MOST))
        for order in both:
            self.assertIs(satisfies_constraints(counts, observed, order), True)
        ends = [[writer for writer, _ in order if writer != "c"][-1] for order in both]
        self.assertEqual(ends, ["a", "b"])

    def test_drawn_large_numbers(self):
        chance = random.Random(68)
        for _ in range(50):
            counts = {name: chance.choice([2, 9, MOST]) for name in chance.sample(LETTERS, 4)}
            pages = page_history(counts, random_schedule(chance, counts, 40))
            observed = [pages[at] for at in sorted(chance.choices(range(len(pages)), k=12))]
            lines = [(name, chance.choice([1, 2, counts[name]])) for name in counts]
            first, second = lines[:2]
            sure = certain_order(counts, observed, first, second)
            both = orders_both_ways(counts, observed, first, second)
            self.assertIs(sure is None, both is not None)
            turned = certain_order(counts, observed, second, first)
            self.assertIs(turned, None if sure is None else not sure)
            for order in both or ():
                self.assertIs(satisfies_constraints(counts, observed, order), True)
            for line in lines:
                low = min_saves_before(counts, observed, line)
                self.assertLessEqual(line[1] - 1, low)
                self.assertLessEqual(low, max_saves_before(counts, observed, line))
            self.assertTrue(possible_first_writers(counts, observed))


class CoverModel:
    """Schedules kept save by save, with the lines that each survivor covers."""

    def __init__(self, counts):
        self.counts = counts

    def covered(self, schedule):
        """The final content, and for each lost line the line that covers it, or None."""
        saved = dict.fromkeys(self.counts, 0)
        page, copies, events = (), {}, []
        for action in schedule:
            writer = action[1]
            if action[0] == "read":
                copies[writer] = page
                events.append(("read", writer))
            for _ in range(1 if action[0] == "save" else action[2] if len(action) == 3 else 0):
                if action[0] == "append":
                    copies[writer] = page
                    events.append(("read", writer))
                saved[writer] += 1
                page = copies.pop(writer) + ((writer, saved[writer]),)
                events.append(("save", (writer, saved[writer])))
        return page, self.covers(events, set(page))

    def covers(self, events, survivors):
        found = {}
        for at, (kind, line) in enumerate(events):
            if kind == "save" and line not in survivors:
                after = [place for place in range(at, len(events))
                         if events[place][0] == "save" and events[place][1] in survivors]
                found[line] = None
                if after:
                    by = events[after[0]][1]
                    reads = [place for place in range(after[0]) if events[place] == ("read", by[0])]
                    found[line] = by if reads[-1] < at else None
        return found


def all_covers(counts):
    """For each final content and lost line, the lines that cover it in some schedule."""
    writers = sorted(counts)
    start = (((0,) * len(writers), (), (None,) * len(writers)), ())
    found = {}
    waiting = [start]
    while waiting:
        state, events = waiting.pop()
        following = list(steps(state, counts))
        if not following:
            for line, by in CoverModel(counts).covers(events, set(state[1])).items():
                found.setdefault((state[1], line), set()).add(by)
        for after in following:
            at = [place for place in range(len(writers))
                  if after[0][place] != state[0][place] or after[2][place] != state[2][place]][0]
            saves = after[0][at] != state[0][at]
            event = ("save", (writers[at], after[0][at])) if saves else ("read", writers[at])
            waiting.append((after, events + (event,)))
    return found


class CoveringTest(unittest.TestCase):
    """[71]"""

    def check(self, counts, content, line):
        gap = [gap for gap in gaps(counts, content)
               if gap[0] == line[0] and gap[1] <= line[1] <= gap[2]]
        expected = content[gap[0][3]:gap[0][4] + 1] if gap else []
        runs = covering_runs(counts, content, line)
        self.assertEqual(runs, expected)
        return runs

    def check_schedule(self, counts, content, line, by, expected):
        schedule = schedule_covering(counts, content, line, by)
        if not expected:
            self.assertIsNone(schedule)
            return
        self.assertIs(is_schedule(counts, schedule), True)
        self.assertIs(is_schedule_to_final(counts, schedule, content), True)
        if sum(counts.values()) < 100:
            page, covered = CoverModel(counts).covered(schedule)
            self.assertEqual(compress(page), list(content))
            self.assertEqual(covered[line], by)

    def test_all_schedules(self):
        for counts in ({"a": 1}, {"a": 2}, {"a": 1, "b": 1}, {"a": 2, "b": 1}, {"b": 2, "a": 1},
                       {"a": 1, "b": 1, "c": 1}, {"a": 2, "b": 2}, {"a": 3, "b": 1}):
            covers = all_covers(counts)
            for lines in sorted(search_contents(counts)[1]):
                content = compress(lines)
                for line in lines_of(counts):
                    runs = self.check(counts, content, line)
                    by = covers.get((lines, line), set()) - {None}
                    self.assertEqual(set(expand(runs)), by)
                    for other in lines_of(counts):
                        self.check_schedule(counts, content, line, other, other in by)

    def test_drawn_contents(self):
        chance = random.Random(71)
        for _ in range(150):
            counts = {name: chance.choice([0, 1, 3, 6]) for name in chance.sample(LETTERS, 4)}
            content = random_final(chance, counts, 8)
            for line in lines_of(counts):
                runs = expand(self.check(counts, content, line))
                for other in chance.choices(lines_of(counts), k=3):
                    self.check_schedule(counts, content, line, other, other in runs)

    def test_large_numbers(self):
        counts = {"a": MOST, "b": MOST, "c": MOST}
        content = [("a", 1, 9), ("b", 5, MOST - 1), ("a", 20, MOST - 7), ("c", MOST, MOST)]
        for line, runs in ((("b", 4), content[:1]), (("a", 10), content[1:2]),
                           (("b", MOST), content[2:]), (("a", MOST), content[3:]),
                           (("c", 77), content[:3]), (("c", MOST), []), (("a", 9), [])):
            self.assertEqual(self.check(counts, content, line), runs)
            for run in content:
                for number in (run[1], run[1] + 3, run[2]):
                    by = (run[0], min(number, run[2]))
                    self.check_schedule(counts, content, line, by, run in runs)
        self.assertIsNone(schedule_covering(counts, content, ("b", 4), ("b", 3)))
        self.assertIsNone(schedule_covering(counts, content, ("a", 1), ("a", 1)))

    def test_no_lines_and_one_line(self):
        self.assertEqual(covering_runs({"a": 1}, [("a", 1, 1)], ("a", 1)), [])
        self.assertIsNone(schedule_covering({"a": 1}, [("a", 1, 1)], ("a", 1), ("a", 1)))
        for function, more in ((covering_runs, ()), (schedule_covering, (("a", 1),))):
            with self.assertRaises(InvalidLine):
                function({"a": 0}, [], ("a", 1), *more)

    def test_contents_that_cannot_be_final(self):
        for content in ([], [("a", 1, 1)], [("a", 2, 2)], [("b", 1, 1), ("a", 1, 1)],
                        [("a", 1, 2), ("a", 1, 2)], [("a", 1, 3)], None, "a1", [("a", True, 2)]):
            for line in (("a", 1), ("a", 3), None):
                with self.assertRaises(InvalidContent):
                    covering_runs(C, content, line)
                with self.assertRaises(InvalidContent):
                    schedule_covering(C, content, line, line)
                with self.assertRaises(InvalidLineCounts):
                    schedule_covering({}, content, line, line)
                with self.assertRaises(InvalidLineCounts):
                    covering_runs({}, content, line)

    def test_wrong_lines(self):
        for line in odd_values() + [("a", 3), ("a", 0), ("c", 1), ["a", 1], ("a", True)]:
            with self.assertRaises(InvalidLine):
                covering_runs(C, [("a", 1, 2)], line)
            with self.assertRaises(InvalidLine):
                schedule_covering(C, [("a", 1, 2)], line, ("a", 1))
            with self.assertRaises(InvalidLine):
                schedule_covering(C, [("a", 1, 2)], ("b", 1), line)
            with self.assertRaises(InvalidLine):
                schedule_covering(C, [("a", 1, 2)], ("a", 1), line)


if __name__ == "__main__":
    unittest.main()
