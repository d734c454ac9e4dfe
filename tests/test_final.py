"""Points 19 to 25: contents that can appear and contents that can be final."""

import random
import unittest

from lastcopy.contents import append_line, is_prefix, reverse_content, split_at
from lastcopy.final import (
    can_appear, can_be_final, final_obstruction, next_lines, schedule_to_appear, schedule_to_final,
)
from lastcopy.schedules import is_schedule, state_after
from tests.support import (
    compress, expand, model_after, random_appearing, random_content, random_final,
)

MOST = 10 ** 30


class FinalTest(unittest.TestCase):
    def check_final_schedule(self, counts, content):
        schedule = schedule_to_final(counts, content)
        self.assertIs(type(schedule), list)
        self.assertIs(is_schedule(counts, schedule), True)
        self.assertEqual(state_after(counts, schedule), (counts, list(content), {}))
        return schedule

    def check_appear_schedule(self, counts, content):
        schedule = schedule_to_appear(counts, content)
        self.assertIs(type(schedule), list)
        self.assertIs(is_schedule(counts, schedule), True)
        self.assertEqual(state_after(counts, schedule)[1:], (list(content), {}))
        return schedule


class AppearTest(FinalTest):
    """[19]"""

    def test_examples(self):
        counts = {"a": 2, "b": 1}
        self.assertEqual([can_appear(counts, [("b", 1, 1), ("a", 2, 2)]),
                          can_appear(counts, [("a", 2, 2)])], [True, False])
        self.assertEqual([can_be_final(counts, [("b", 1, 1)]), can_be_final(counts, [("a", 1, 1)])],
                         [True, False])

    def test_can_appear(self):
        counts = {"a": 5, "b": 5, "n": 0, "z": MOST}
        yes = [
            [], (), [("a", 1, 1)], [("a", 1, 5)], (("b", 1, 3),), [("a", 1, 1), ("b", 5, 5)],
            [("a", 1, 1), ("b", 2, 2), ("a", 3, 3)], [("a", 1, 1), ("b", 2, 2), ("a", 2, 2)],
            [("z", 1, MOST)], [("z", 1, 1), ("a", 5, 5), ("z", MOST, MOST)],
        ]
        no = [
            [("a", 2, 2)], [("a", 2, 5)], [("a", 1, 1), ("a", 3, 3)], [("a", 1, 1), ("a", 1, 1)],
            [("a", 1, 2), ("b", 1, 1), ("a", 2, 2)], [("a", 1, 2), ("b", 1, 1), ("a", 1, 1)],
            [("a", 1, 1), ("b", 2, 2), ("b", 1, 1)], [("z", MOST, MOST)],
            [("a", 1, 1), ("b", 1, 1), ("b", 3, 3)], [("a", 2, 2), ("b", 1, 1)],
        ]
        for content in yes:
            self.assertIs(can_appear(counts, content), True)
            self.check_appear_schedule(counts, content)
        for content in no:
            self.assertIs(can_appear(counts, content), False)
            self.assertIs(can_be_final(counts, content), False)
            self.assertIsNone(schedule_to_appear(counts, content))
            self.assertIsNone(schedule_to_final(counts, content))
            self.assertIsNone(next_lines(counts, content))

    def test_empty_page(self):
        for counts in ({"a": 0}, {"a": 0, "b": 0}):
            self.assertIs(can_appear(counts, []), True)
            self.assertIs(can_be_final(counts, []), True)
            self.assertIs(can_be_final(counts, ()), True)
            self.assertIsNone(final_obstruction(counts, []))
            self.assertEqual(schedule_to_final(counts, []), [])
            self.assertEqual(next_lines(counts, []), [])
        for counts in ({"a": 1}, {"a": 0, "b": MOST}):
            self.assertIs(can_appear(counts, []), True)
            self.assertIs(can_be_final(counts, []), False)
            self.assertEqual(final_obstruction(counts, []), ("empty",))
            self.assertIsNone(schedule_to_final(counts, []))
            self.assertEqual(schedule_to_appear(counts, []), [])


class ObstructionTest(FinalTest):
    """[20]"""

    def test_examples(self):
        self.assertEqual(final_obstruction({"a": 3, "b": 1}, [("a", 1, 1), ("a", 3, 3)]),
                         ("split", 1))
        self.assertEqual(final_obstruction({"a": 3, "b": 1}, [("a", 2, 2)]), ("start",))

    def test_first_obstruction(self):
        counts = {"a": 5, "b": 5, "n": 0}
        cases = [
            ([("a", 1, 5)], None),
            ([("a", 1, 1), ("b", 5, 5)], None),
            ([], ("empty",)),
            ([("a", 2, 2), ("a", 1, 1)], ("start",)),
            ([("a", 5, 5)], ("start",)),
            ([("a", 1, 1), ("a", 1, 1)], ("decreasing", 1)),
            ([("a", 1, 3), ("a", 3, 5)], ("decreasing", 1)),
            ([("a", 1, 3), ("a", 2, 2)], ("decreasing", 1)),
            ([("a", 1, 3), ("a", 5, 5)], ("split", 1)),
            ([("a", 1, 3), ("b", 1, 1), ("a", 3, 5)], ("decreasing", 2)),
            ([("a", 1, 3), ("b", 1, 1), ("a", 4, 4)], ("end",)),
            ([("a", 1, 3), ("b", 1, 1), ("b", 3, 3), ("a", 1, 1)], ("split", 2)),
            ([("a", 1, 3), ("b", 1, 1), ("a", 2, 2), ("b", 3, 3), ("b", 5, 5)], ("decreasing", 2)),
            ([("a", 1, 1), ("a", 3, 3), ("a", 2, 2)], ("split", 1)),
            ([("a", 1, 1), ("b", 2, 2), ("b", 1, 1)], ("decreasing", 2)),
            ([("a", 1, 4)], ("end",)),
            ([("a", 1, 5), ("b", 2, 4)], ("end",)),
        ]
        for content, expected in cases:
            self.assertEqual(final_obstruction(counts, content), expected)
            self.assertEqual(final_obstruction(counts, tuple(content)), expected)
            self.assertIs(can_be_final(counts, content), expected is None)

    def test_against_the_list(self):
        chance = random.Random(20)
        counts = {"a": 4, "b": 3}
        for _ in range(3000):
            content = random_content(chance, counts, 4)
            self.assertEqual(final_obstruction(counts, content),
                             self.first_of_the_list(counts, content))

    def first_of_the_list(self, counts, content):
        if not content:
            return ("empty",)
        if content[0][1] != 1:
            return ("start",)
        for at, (writer, first, _) in enumerate(content):
            if any(run[0] == writer and run[2] >= first for run in content[:at]):
                return ("decreasing", at)
            if at > 0 and content[at - 1][0] == writer:
                return ("split", at)
        if content[-1][2] != counts[content[-1][0]]:
            return ("end",)
        return None


class ScheduleTest(FinalTest):
    """[21]"""

    def test_examples(self):
        counts = {"a": 2, "b": 1}
        self.check_final_schedule(counts, [("b", 1, 1)])
        self.assertIsNone(schedule_to_final(counts, [("a", 1, 1)]))
        schedule = schedule_to_appear({"a": 2}, [("a", 1, 1)])
        self.assertEqual(state_after({"a": 2}, schedule), ({"a": 1}, [("a", 1, 1)], {}))

    def test_random_contents(self):
        chance = random.Random(21)
        for _ in range(500):
            names = chance.sample(["a", "b", "c", "d", "longname"], chance.randint(1, 5))
            counts = {name: chance.randint(0, 6) for name in names}
            final = random_final(chance, counts, 8)
            self.assertIs(can_be_final(counts, final), True)
            schedule = self.check_final_schedule(counts, final)
            self.assertEqual(compress(model_after(counts, schedule).page), final)
            content = random_appearing(chance, counts, 8)
            self.assertIs(can_appear(counts, content), True)
            schedule = self.check_appear_schedule(counts, content)
            self.assertEqual(compress(model_after(counts, schedule).page), content)

    def test_twelve_writers_and_large_counts(self):
        chance = random.Random(22)
        counts = {letter * 8: MOST for letter in "abcdefghijkl"}
        self.check_final_schedule(counts, [("aaaaaaaa", 1, MOST)])
        self.check_final_schedule(counts, [("llllllll", 1, 1), ("aaaaaaaa", MOST, MOST)])
        for _ in range(50):
            self.check_final_schedule(counts, random_final(chance, counts, 40))
            self.check_appear_schedule(counts, random_appearing(chance, counts, 40))

    def test_200_runs_and_more(self):
        for many in (200, 201, 400):
            counts = {letter: 2 * many for letter in "abcdefghijkl"}
            content = [("abc"[at % 3], 1 if at == 0 else 2 * at, 1 if at == 0 else 2 * at)
                       for at in range(many)]
            self.check_appear_schedule(counts, content)
            content[-1] = (content[-1][0], content[-1][1], 2 * many)
            self.check_final_schedule(counts, content)
            expected = [(letter, 1, 2 * many) for letter in "defghijkl"]
            self.assertEqual([run for run in next_lines(counts, content) if run[0] > "c"], expected)


class NextLinesTest(FinalTest):
    """[22]"""

    def test_example(self):
        self.assertEqual(next_lines({"a": 3, "b": 2}, [("a", 1, 1)]), [("a", 2, 2), ("b", 1, 2)])

    def test_next_lines(self):
        counts = {"c": MOST, "b": 3, "a": 5, "n": 0}
        cases = [
            ([], [("a", 1, 1), ("b", 1, 1), ("c", 1, 1)]),
            ((), [("a", 1, 1), ("b", 1, 1), ("c", 1, 1)]),
            ([("a", 1, 4)], [("a", 5, 5), ("b", 1, 3), ("c", 1, MOST)]),
            ([("a", 1, 5)], [("b", 1, 3), ("c", 1, MOST)]),
            ([("a", 1, 1), ("b", 2, 2)], [("a", 2, 5), ("b", 3, 3), ("c", 1, MOST)]),
            ([("a", 1, 1), ("b", 2, 3)], [("a", 2, 5), ("c", 1, MOST)]),
            ([("c", 1, 7), ("b", 3, 3)], [("a", 1, 5), ("c", 8, MOST)]),
            ([("b", 1, 3), ("c", 1, MOST)], [("a", 1, 5)]),
            ([("b", 1, 3), ("c", MOST, MOST), ("a", 5, 5)], []),
            ([("a", 2, 2)], None),
            ([("a", 1, 1), ("a", 3, 3)], None),
            ([("a", 1, 2), ("b", 1, 1), ("a", 2, 2)], None),
        ]
        for content, expected in cases:
            self.assertEqual(next_lines(counts, content), expected)

    def test_every_line(self):
        chance = random.Random(22)
        counts = {"d": 3, "b": 4, "a": 0, "c": 2}
        lines = [(writer, number) for writer in "bcd" for number in range(1, counts[writer] + 1)]
        for _ in range(300):
            content = random_content(chance, counts, 3)
            if can_appear(counts, content):
                good = [line for line in lines if can_appear(counts, append_line(content, line))]
                self.assertEqual(next_lines(counts, content), compress(good))


class PropertyTest(FinalTest):
    """[23] to [25]"""

    def setUp(self):
        self.chance = random.Random(23)

    def random_counts(self):
        names = self.chance.sample("abcdef", self.chance.randint(1, 5))
        return {name: self.chance.randint(0, 5) for name in names}

    def test_prefixes_can_appear(self):
        for _ in range(150):
            counts = self.random_counts()
            content = random_appearing(self.chance, counts, 6)
            for count in range(len(expand(content)) + 1):
                self.assertIs(can_appear(counts, split_at(content, count)[0]), True)

    def test_each_is_a_prefix_of_a_final_content(self):
        for _ in range(150):
            counts = self.random_counts()
            content = random_appearing(self.chance, counts, 6)
            longer = content
            while not can_be_final(counts, longer):
                writer, first, _ = next_lines(counts, longer)[0]
                longer = append_line(longer, (writer, first))
            self.assertIs(is_prefix(content, longer), True)
            self.check_final_schedule(counts, longer)

    def test_reversal(self):
        for _ in range(300):
            counts = self.random_counts()
            if any(counts.values()):
                content = random_content(self.chance, counts, 4)
                self.assertIs(can_be_final(counts, reverse_content(counts, content)),
                              can_be_final(counts, content))
            content = random_final(self.chance, counts, 6)
            self.assertIs(can_be_final(counts, reverse_content(counts, content)), True)

    def test_another_writer(self):
        for _ in range(150):
            counts = self.random_counts()
            content = random_final(self.chance, counts, 6)
            if content:
                for count in (0, 1, 5, MOST):
                    self.assertIs(can_be_final(dict(counts, other=count), content), True)

    def test_split_writer(self):
        for _ in range(300):
            counts = self.random_counts()
            content = random_final(self.chance, counts, 6)
            writer = self.chance.choice(list(counts))
            if counts[writer] == 0:
                continue
            kept = self.chance.randint(0, counts[writer] - 1)
            parted = dict(counts, rest=counts[writer] - kept)
            parted[writer] = kept
            lines = [("rest", number - kept) if name == writer and number > kept
                     else (name, number) for name, number in expand(content)]
            self.assertIs(can_be_final(parted, compress(lines)), True)

    def test_all_but_two_lines_lost(self):
        for counts in ({"a": 1, "b": 1}, {"a": 7, "b": 3, "c": 9}, {"a": MOST, "b": MOST}):
            content = [("a", 1, 1), ("b", counts["b"], counts["b"])]
            self.assertIs(can_be_final(counts, content), True)
            self.check_final_schedule(counts, content)

    def test_two_runs(self):
        counts = {"a": 3, "b": 3, "c": 1}
        runs = [(writer, first, last) for writer in counts for first in range(1, counts[writer] + 1)
                for last in range(first, counts[writer] + 1)]
        for one in runs:
            for other in runs:
                if one[0] != other[0]:
                    expected = one[1] == 1 and other[2] == counts[other[0]]
                    self.assertIs(can_be_final(counts, [one, other]), expected)


if __name__ == "__main__":
    unittest.main()
