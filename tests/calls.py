"""Every function of these modules: the kinds of its arguments, wrong values, and good calls."""

from lastcopy import contents, errors, final, schedules
from tests.support import Prickly, expand, model_after, odd_values, random_content, random_schedule

MOST = 10 ** 30

# A function's name, the module, and the kinds of its arguments. "any" takes every value.
FUNCTIONS = [
    (contents, "is_line_counts", ["any"]),
    (contents, "is_line", ["counts", "any"]),
    (contents, "is_content", ["counts", "any"]),
    (contents, "is_line_set", ["counts", "any"]),
    (contents, "count_lines", ["free content"]),
    (contents, "line_at", ["free content", "index"]),
    (contents, "index_of", ["free content", "free line"]),
    (contents, "is_prefix", ["free content", "free content"]),
    (contents, "append_line", ["free content", "free line"]),
    (contents, "split_at", ["free content", "part"]),
    (contents, "reverse_content", ["counts", "content"]),
    (schedules, "is_schedule", ["counts", "any"]),
    (schedules, "state_after", ["counts", "schedule"]),
    (schedules, "page_history", ["counts", "schedule"]),
    (schedules, "find_save", ["counts", "schedule", "line"]),
    (schedules, "content_at_save", ["counts", "schedule", "line"]),
    (schedules, "count_overwrites", ["counts", "schedule"]),
    (schedules, "surviving_and_lost", ["counts", "schedule"]),
    (schedules, "save_log", ["counts", "schedule"]),
    (schedules, "first_invalid_save", ["counts", "log"]),
    (schedules, "schedule_for_log", ["counts", "log"]),
    (final, "can_appear", ["counts", "content"]),
    (final, "can_be_final", ["counts", "content"]),
    (final, "final_obstruction", ["counts", "content"]),
    (final, "schedule_to_final", ["counts", "content"]),
    (final, "schedule_to_appear", ["counts", "content"]),
    (final, "next_lines", ["counts", "content"]),
]

ERRORS = {
    "counts": errors.InvalidLineCounts,
    "content": errors.InvalidContent,
    "free content": errors.InvalidContent,
    "line": errors.InvalidLine,
    "free line": errors.InvalidLine,
    "index": errors.InvalidInteger,
    "part": errors.InvalidInteger,
    "schedule": errors.InvalidAction,
    "log": errors.InvalidSaveOrder,
}


def good_value(kind):
    """A new valid argument; the contents have six lines."""
    return {
        "any": [],
        "counts": {"b": 3, "a": 4, "n": 0},
        "content": [("a", 1, 1), ("b", 1, 3), ("a", 3, 4)],
        "free content": [("a", 1, 1), ("b", 1, 3), ("a", 3, 4)],
        "line": ("a", 2),
        "free line": ("a", 2),
        "index": 5,
        "part": 6,
        "schedule": [("append", "a", 1), ("read", "b"), ("append", "a", 2), ("save", "b")],
        "log": [("a", 1, 3, None), ("b", 1, 1, ("a", 1)), ("a", 4, 4, ("b", 1))],
    }[kind]


def random_arguments(chance, kinds):
    """New valid arguments of these kinds."""
    counts = {"b": 3, "a": 4, "c": 2, "n": 0}
    content = random_content(chance, counts, 4) or [("a", 1, 2)]
    total = len(expand(content))
    schedule = random_schedule(chance, counts, chance.randint(0, 8))
    values = {
        "any": list(content),
        "counts": counts,
        "content": list(content),
        "free content": content,
        "line": ("a", chance.randint(1, 4)),
        "free line": ("a", chance.randint(1, 9)),
        "index": chance.randint(0, total - 1),
        "part": chance.randint(0, total),
        "schedule": schedule,
        "log": model_after(counts, schedule).log(),
    }
    return [list(values[kind]) if kind == "free content" else values[kind] for kind in kinds]


def bad_lines():
    return [
        (), ("a",), ("a", 0), ("a", -1), ("a", 1, 1), ["a", 1], ("a", True), ("a", 1.0),
        ("a", "1"), ("a", None), ("a", [1]), (["a"], 1), (1, "a"), ("A", 1), ("", 1),
        ("abcdefghi", 1), ("a1", 1), ("\u00e4", 1), (b"a", 1), "a1", {"a": 1}, ("a", MOST + 1),
    ]


def bad_contents():
    return [
        {}, [()], [("a", 1)], [("a", 1, 1, 1)], [["a", 1, 1]], [("a", True, 1)], [("a", 1, True)],
        [("a", 1.0, 1)], [("a", 1, "1")], [("a", None, 1)], [(["a"], 1, 1)], [("a", 2, 1)],
        [("a", 0, 1)], [("a", -1, -1)], [("A", 1, 1)], [("", 1, 1)], [("abcdefghi", 1, 1)],
        [("a", 1, 1), ("a", 2, 2)], (("a", 1, 1), ("a", 2, 2)), ("a", 1, 1), "a1",
        {("a", 1, 1): 1}, {("a", 1, 1)}, [("a", 1, 1), Prickly()], [("a", Prickly(), 1)],
        [("a", 1, Prickly())], [(Prickly(), 1, 1)], [("a", 1, MOST + 1)], iter([("a", 1, 1)]),
        range(0), frozenset(), [("a", 1, 1), ("b", 2, 2), ["a", 1, 1]],
    ]


def bad_values(kind):
    """New wrong arguments of a kind, beside the good values of the other arguments."""
    if kind == "counts":
        return odd_values() + [
            {}, [], (), "a", {"a": -1}, {"a": MOST + 1}, {"a": True}, {"a": False}, {"a": 1.0},
            {"a": "1"}, {"a": None}, {"a": [1]}, {"": 1}, {"abcdefghi": 1}, {"A": 1}, {"a1": 1},
            {1: 1}, {None: 1}, {("a",): 1}, {b"a": 1}, [("a", 1)], {"a"}, {"a": 1, "b": -1},
            {letter: 1 for letter in "abcdefghijklm"}, {"a": Prickly()}, {"\u00e4": 1},
        ]
    if kind in ("line", "free line"):
        unknown = [("c", 1), ("a", 5), ("n", 0), ("n", 1)] if kind == "line" else []
        return odd_values() + bad_lines() + unknown + [[], {}]
    if kind in ("content", "free content"):
        unknown = [[("c", 1, 1)], [("a", 1, 5)], [("n", 1, 1)]] if kind == "content" else []
        return odd_values() + bad_contents() + unknown
    if kind == "index":
        return odd_values() + [6, 7, -6, 10 ** 40, -10 ** 40, "0", [0], (0,), 0.0, [], ()]
    if kind == "part":
        return odd_values() + [7, 8, -6, 10 ** 40, -10 ** 40, "0", [0], (0,), 0.0, [], ()]
    if kind == "schedule":
        return odd_values() + [
            (), {}, "read a", (("append", "a", 1),), [("append", "a", 0)], [["read", "a"]],
            [("append", "c", 1)], [("append", "a", 5)], [("append", "a", True)], [("save", "a")],
            [("read", "a"), ("read", "a")], [("read", "n")], [("leave", "a")], [(Prickly(), "a")],
        ]
    return odd_values() + [
        (), {}, "log", (("a", 1, 1, None),), [["a", 1, 1, None]], [("a", 1, 1)],
        [("a", 2, 1, None)], [("a", 0, 1, None)], [("a", 1, 5, None)], [("c", 1, 1, None)],
        [("a", True, 1, None)], [("a", 1, 1, ("c", 1))], [("a", 1, 1, ("a", 5))],
        [("a", 1, 1, ["b", 1])], [("a", 1, 1, ("b", True))], [("a", 1, 1, Prickly())],
        [("a", 1, 1, None), ("a", 2, 2, ("a", 1))],
    ]
