"""Points 4, 19, 21 and 22 against all schedules for small line counts, found by search."""

import unittest

from lastcopy.final import (
    can_appear, can_be_final, final_obstruction, next_lines, schedule_to_appear, schedule_to_final,
)
from tests.support import all_contents, compress, model_after, search_contents

ALL_COUNTS = [
    {"a": 0}, {"a": 1}, {"a": 4}, {"a": 0, "b": 0}, {"a": 0, "b": 2}, {"a": 1, "b": 1},
    {"b": 2, "a": 1}, {"a": 2, "b": 2}, {"a": 3, "b": 1}, {"a": 3, "b": 2}, {"a": 4, "b": 1},
    {"a": 1, "b": 1, "c": 1}, {"c": 2, "b": 1, "a": 1}, {"a": 2, "b": 2, "c": 1},
    {"a": 1, "b": 1, "c": 1, "d": 1},
]


class AllSchedulesTest(unittest.TestCase):
    def setUp(self):
        self.found = [(counts, *search_contents(counts)) for counts in ALL_COUNTS]

    def contents(self, counts):
        """All contents of at most one line more than there are, also with repeated lines."""
        return all_contents(counts, min(5, sum(counts.values()) + 1))

    def test_search_is_covered(self):
        for counts, pages, finals in self.found:
            self.assertLessEqual(finals, pages)
            self.assertLessEqual(pages, set(self.contents(counts)))

    def test_can_appear(self):
        for counts, pages, _ in self.found:
            for lines in self.contents(counts):
                self.assertIs(can_appear(counts, compress(lines)), lines in pages, (counts, lines))

    def test_can_be_final(self):
        for counts, _, finals in self.found:
            for lines in self.contents(counts):
                content = compress(lines)
                self.assertIs(can_be_final(counts, content), lines in finals, (counts, lines))
                self.assertIs(final_obstruction(counts, content) is None, lines in finals)

    def test_schedules(self):
        for counts, pages, finals in self.found:
            for lines in self.contents(counts):
                content = compress(lines)
                schedule = schedule_to_appear(counts, content)
                self.assertIs(schedule is not None, lines in pages)
                if schedule is not None:
                    model = model_after(counts, schedule)
                    self.assertEqual((tuple(model.page), model.copies), (lines, {}))
                schedule = schedule_to_final(counts, content)
                self.assertIs(schedule is not None, lines in finals)
                if schedule is not None:
                    model = model_after(counts, schedule)
                    self.assertEqual((tuple(model.page), model.copies), (lines, {}))
                    self.assertEqual(model.saved, counts)

    def test_next_lines(self):
        for counts, pages, _ in self.found:
            lines = [(writer, number) for writer in sorted(counts)
                     for number in range(1, counts[writer] + 1)]
            for content in self.contents(counts):
                expected = None
                if content in pages:
                    expected = compress([line for line in lines if content + (line,) in pages])
                self.assertEqual(next_lines(counts, compress(content)), expected)


if __name__ == "__main__":
    unittest.main()
