"""Points 41 to 43 where they have the most to do: the answers as they were, and the time."""

import hashlib
import time
import unittest

from lastcopy.counting import count_contents_by_runs, count_final_contents, count_survivor_sets

MOST = 10 ** 30
LETTERS = "abcdefghijkl"
ONES = dict(zip(LETTERS, [1] * 11 + [8]))

# All calls of a list together took about 4, 3 and 4 times the plain work below when this was
# written; before that, they took about 155, 50 and 70 times.
SURVIVOR_UNITS = 25
RUN_UNITS = 13
FINAL_UNITS = 18

# The arguments, and the beginning of a digest of the answer, which may have thousands of digits.
SURVIVOR_SETS = [
    (({"a": MOST, "b": MOST}, 60), "610d3a1766fcdcc93ae7"),
    (({"a": MOST, "b": MOST}, 59), "75a24e51e527f2df527f"),
    (({"a": MOST - 1, "b": MOST}, 60), "19dfa5e3420262ba6836"),
    (({"a": MOST, "b": 61}, 60), "212464f2b45ea6344f92"),
    (({"a": MOST, "b": MOST, "c": MOST}, 58), "ff8f82ecfc6435bb561a"),
    (({"a": MOST, "b": 7}, 60), "40a7395f1ab5caca5048"),
    (({"a": 10 ** 15, "b": 10 ** 29, "c": 1}, 57), "f8106f15816eeb179414"),
    (({letter: MOST for letter in LETTERS}, 60), "eadd7ddc2c36faf03412"),
]
CONTENTS_BY_RUNS = [
    (({"a": MOST, "b": 300}, {"a": 140, "b": 140}), "b0b293a3711b21f001f8"),
    (({"a": 300, "b": MOST}, {"a": 140, "b": 140}), "b0b293a3711b21f001f8"),
    (({"a": MOST, "b": MOST}, {"a": 139, "b": 140}), "d4eb5cf66c15e2e7d19a"),
    (({"a": MOST, "b": MOST, "c": 9}, {"a": 98, "b": 99, "c": 1}), "dc0504f848cfe421d122"),
    (({"a": MOST, "b": MOST, "c": MOST}, {"a": 26, "b": 26, "c": 26}), "fc66788423f3fe6b9038"),
    (({"a": MOST, "b": 40, "c": MOST}, {"a": 30, "b": 20, "c": 29}), "a9e8d50bc888999c9634"),
    (({letter: MOST - at for at, letter in enumerate(LETTERS)}, ONES), "7ea8c70deb575d4ffa2a"),
]
FINAL_CONTENTS = [
    (({"a": 124, "b": 159},), "7bd4be0e347f7da3ff08"),
    (({"a": 159, "b": 124},), "7bd4be0e347f7da3ff08"),
    (({"a": 140, "b": 140},), "b83549401598f2bcac30"),
    (({"a": 141, "b": 139},), "f48e1a3abfb73836d77c"),
    (({"a": 100, "b": 196},), "28fa9b0c63a51f8a29d0"),
    (({"a": 99, "b": 99, "c": 1},), "6071d96527b5b5f689d4"),
    (({"a": 26, "b": 26, "c": 26},), "84a7af9e8da2a17685e4"),
    (({"a": 60, "b": 60, "c": 4},), "403472f4c01333945a33"),
    ((ONES,), "cc7b37d7f6abec9b428e"),
]


def digest(number):
    return hashlib.sha256(hex(number).encode()).hexdigest()[:20]


def least_time(work):
    """The least time of some tries, because other programs may run beside the test."""
    times = []
    for _ in range(5):
        started = time.perf_counter()
        work()
        times.append(time.perf_counter() - started)
    return min(times)


def plain_work():
    """Work that takes some milliseconds, to tell a slow machine from a slow function."""
    total = 1
    for number in range(20000):
        total = (total * 3 + number) % 10 ** 60
    return total


class SpeedTest(unittest.TestCase):
    def check(self, function, cases, most):
        """The answers, and that all calls together take at most so many times the plain work."""
        for arguments, expected in cases:
            self.assertEqual(digest(function(*arguments)), expected, arguments)
        unit = least_time(plain_work)
        taken = least_time(lambda: [function(*arguments) for arguments, _ in cases])
        self.assertLess(taken / unit, most)

    def test_survivor_sets(self):
        """[41]"""
        self.check(count_survivor_sets, SURVIVOR_SETS, SURVIVOR_UNITS)

    def test_contents_by_runs(self):
        """[42]"""
        self.check(count_contents_by_runs, CONTENTS_BY_RUNS, RUN_UNITS)

    def test_final_contents(self):
        """[43]"""
        self.check(count_final_contents, FINAL_CONTENTS, FINAL_UNITS)


if __name__ == "__main__":
    unittest.main()
