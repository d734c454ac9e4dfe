"""Every function of these modules: the kinds of its arguments, wrong values, and good calls.

What takes a text, a page or an argument by name is in the tests of its module, too.
"""

from lastcopy import (
    atomic, certainty, check_final, check_observations, check_overwrites, check_survivors, contents,
    counting, errors, final, formats, observations, overwrites, save_orders, schedules, states,
    survivors, weights,
)
from tests.support import (
    Prickly, compress, expand, is_one_empty_content, line_set_of, model_after, odd_values,
    random_content, random_final, random_schedule,
)

MOST = 10 ** 30

# The module, a function's name, and the kinds of its arguments. A kind that begins with "any" takes
# every value; the rest of it says which values are of interest.
FUNCTIONS = [
    (contents, "is_line_counts", ["any"]),
    (contents, "is_line", ["counts", "any"]),
    (contents, "is_content", ["counts", "any"]),
    (contents, "is_line_set", ["counts", "any"]),
    (contents, "count_lines", ["free content"]),
    (contents, "line_at", ["free content", "index"]),
    (contents, "index_of", ["free content", "free line"]),
    (contents, "is_prefix", ["free content", "free content"]),
    (contents, "append_line", ["free content", "free line"]),
    (contents, "split_at", ["free content", "part"]),
    (contents, "reverse_content", ["counts", "content"]),
    (schedules, "is_schedule", ["counts", "any"]),
    (schedules, "state_after", ["counts", "schedule"]),
    (schedules, "page_history", ["counts", "schedule"]),
    (schedules, "find_save", ["counts", "schedule", "line"]),
    (schedules, "content_at_save", ["counts", "schedule", "line"]),
    (schedules, "count_overwrites", ["counts", "schedule"]),
    (schedules, "surviving_and_lost", ["counts", "schedule"]),
    (schedules, "save_log", ["counts", "schedule"]),
    (schedules, "first_invalid_save", ["counts", "log"]),
    (schedules, "schedule_for_log", ["counts", "log"]),
    (final, "can_appear", ["counts", "content"]),
    (final, "can_be_final", ["counts", "content"]),
    (final, "final_obstruction", ["counts", "content"]),
    (final, "schedule_to_final", ["counts", "content"]),
    (final, "schedule_to_appear", ["counts", "content"]),
    (final, "next_lines", ["counts", "content"]),
    (check_final, "is_final_obstruction", ["counts", "content", "any obstruction"]),
    (check_final, "is_schedule_to_final", ["counts", "any schedule", "content"]),
    (overwrites, "gaps", ["counts", "content"]),
    (overwrites, "min_overwrites", ["counts", "content"]),
    (overwrites, "overwrite_runs", ["counts", "content"]),
    (overwrites, "disjoint_gaps", ["counts", "content"]),
    (overwrites, "schedule_with_min_overwrites", ["counts", "content"]),
    (overwrites, "gaps_covered_by", ["counts", "content", "run index"]),
    (check_overwrites, "covers_all_gaps", ["counts", "content", "any indices"]),
    (check_overwrites, "are_disjoint_gaps", ["counts", "content", "any gaps"]),
    (survivors, "lost_lines", ["counts", "line set"]),
    (survivors, "gap_counts", ["counts", "line set"]),
    (survivors, "can_survive", ["counts", "line set"]),
    (survivors, "survival_obstruction", ["counts", "line set"]),
    (survivors, "content_for", ["counts", "line set"]),
    (survivors, "lines_in_content", ["free content"]),
    (check_survivors, "is_survival_obstruction", ["counts", "line set", "any obstruction of a set"]),
    (counting, "can_survive_counts", ["counts", "table"]),
    (counting, "min_surviving_lines", ["counts"]),
    (counting, "count_survivor_sets", ["counts", "size"]),
    (counting, "count_contents_by_runs", ["counts", "table"]),
    (counting, "count_final_contents", ["counts"]),
    (atomic, "is_atomic_schedule", ["counts", "atomic set", "any schedule"]),
    (atomic, "can_be_final_atomic", ["counts", "atomic set", "content"]),
    (atomic, "atomic_final_obstruction", ["counts", "atomic set", "content"]),
    (atomic, "is_atomic_final_obstruction",
     ["counts", "atomic set", "content", "any atomic obstruction"]),
    (atomic, "schedule_to_final_atomic", ["counts", "atomic set", "content"]),
    (atomic, "min_non_atomic_lines", ["counts", "content"]),
    (atomic, "required_non_atomic_lines", ["counts", "atomic set", "content"]),
    (atomic, "count_atomic_sets", ["counts", "content"]),
    (save_orders, "line_counts_of", ["save order"]),
    (save_orders, "is_outcome", ["save order", "any outcome"]),
    (save_orders, "count_outcomes", ["save order"]),
    (save_orders, "nth_outcome", ["save order", "outcome index"]),
    (save_orders, "outcome_index", ["save order", "outcome"]),
    (save_orders, "shortest_outcome", ["save order"]),
    (save_orders, "count_outcomes_with", ["save order", "saved line"]),
    (save_orders, "count_outcomes_with_both", ["save order", "saved line", "saved line"]),
    (save_orders, "lines_in_all_outcomes", ["save order"]),
    (observations, "constraints", ["counts", "observations"]),
    (observations, "is_consistent", ["counts", "observations"]),
    (observations, "observation_obstruction", ["counts", "observations"]),
    (observations, "consistent_order", ["counts", "observations"]),
    (observations, "schedule_with_observations", ["counts", "observations"]),
    (check_observations, "is_observation_obstruction",
     ["counts", "observations", "any obstruction of observations"]),
    (check_observations, "satisfies_constraints", ["counts", "observations", "any complete order"]),
    (check_observations, "is_observed_in", ["counts", "any schedule", "observations"]),
    (certainty, "certain_order", ["counts", "consistent observations", "line", "other line"]),
    (certainty, "min_saves_before", ["counts", "consistent observations", "line"]),
    (certainty, "max_saves_before", ["counts", "consistent observations", "line"]),
    (certainty, "orders_both_ways", ["counts", "consistent observations", "line", "other line"]),
    (certainty, "min_saves_between", ["counts", "consistent observations", "line", "other line"]),
    (certainty, "possible_first_writers", ["counts", "consistent observations"]),
    (certainty, "possible_last_writers", ["counts", "consistent observations"]),
    (certainty, "covering_runs", ["counts", "final content", "line"]),
    (certainty, "schedule_covering", ["counts", "final content", "line", "other line"]),
    (states, "is_state", ["counts", "any state"]),
    (states, "schedule_to_state", ["counts", "state"]),
    (states, "state_after_actions", ["counts", "state", "actions"]),
    (states, "possible_bases", ["counts", "state"]),
    (states, "guaranteed_lines", ["counts", "state"]),
    (states, "permanently_lost", ["counts", "state"]),
    (states, "can_become_final", ["counts", "state", "content"]),
    (states, "finality_obstructions", ["counts", "state", "content"]),
    (states, "actions_to_final", ["counts", "state", "content"]),
    (states, "reachable_final_contents", ["counts", "state"]),
    (weights, "total_weights", ["weights"]),
    (weights, "min_weight", ["weights"]),
    (weights, "max_weight", ["weights"]),
    (weights, "is_reachable_weight", ["uniform", "total"]),
    (weights, "lines_with_weight", ["uniform", "total"]),
    (formats, "format_line_counts", ["counts"]),
    (formats, "format_content", ["free content"]),
    (formats, "format_line_set", ["free line set"]),
    (formats, "format_schedule", ["free schedule"]),
    (formats, "format_state", ["free state"]),
]


def takes_any_value(kind):
    return kind.startswith("any")


ERRORS = {
    "counts": errors.InvalidLineCounts,
    "content": errors.InvalidContent,
    "free content": errors.InvalidContent,
    "line": errors.InvalidLine,
    "free line": errors.InvalidLine,
    "index": errors.InvalidInteger,
    "part": errors.InvalidInteger,
    "schedule": errors.InvalidAction,
    "log": errors.InvalidSaveOrder,
    "run index": errors.InvalidInteger,
    "line set": errors.InvalidLineSet,
    "table": errors.InvalidNumbers,
    "size": errors.InvalidInteger,
    "atomic set": errors.InvalidAtomicSet,
    "save order": errors.InvalidSaveOrder,
    "outcome index": errors.InvalidInteger,
    "outcome": errors.InvalidContent,
    "saved line": errors.InvalidLine,
    "observations": errors.InvalidObservations,
    "consistent observations": errors.InvalidObservations,
    "other line": errors.InvalidLine,
    "final content": errors.InvalidContent,
    "state": errors.InvalidState,
    "actions": errors.InvalidAction,
    "weights": errors.InvalidNumbers,
    "uniform": errors.InvalidNumbers,
    "total": errors.InvalidInteger,
    "free line set": errors.InvalidLineSet,
    "free schedule": errors.InvalidAction,
    "free state": errors.InvalidState,
}


def good_value(kind):
    """A new valid argument; the content has three runs of six lines, and can be final."""
    schedule = [("append", "a", 1), ("read", "b"), ("append", "a", 2), ("save", "b")]
    content = [("a", 1, 1), ("b", 1, 3), ("a", 3, 4)]
    return {
        "any": [],
        "any schedule": schedule,
        "any obstruction": ("decreasing", 1),
        "any indices": [1],
        "any gaps": [("a", 2, 2, 1, 1)],
        "any obstruction of a set": ("no first",),
        "any atomic obstruction": ("atomic", ("a", 2, 2, 1, 1)),
        "any outcome": [("a", 1, 3)],
        "counts": {"b": 3, "a": 4, "n": 0},
        "content": content,
        "free content": content,
        "line": ("a", 2),
        "free line": ("a", 2),
        "index": 5,
        "part": 6,
        "run index": 2,
        "schedule": schedule,
        "log": [("a", 1, 3, None), ("b", 1, 1, ("a", 1)), ("a", 4, 4, ("b", 1))],
        "line set": {"b": [(1, 1), (3, 3)], "n": [], "a": [(2, 3)]},
        "table": {"b": 2, "a": 2},
        "size": 4,
        "atomic set": {"b": [(1, 1), (3, 3)], "n": [], "a": [(2, 3)]},
        # Its outcomes are a1-3, b1 a3, a1 b1 a3 and a1-2 b1 a3.
        "save order": [("a", 2), ("b", 1), ("a", 1)],
        "outcome index": 3,
        "outcome": [("a", 1, 2), ("b", 1, 1), ("a", 3, 3)],
        "saved line": ("a", 3),
        "observations": [[], [("a", 1, 2)], (("b", 1, 1),), [("b", 1, 1), ("a", 3, 3)]],
        "consistent observations": [[], [("a", 1, 2)], (("b", 1, 1),), [("b", 1, 1), ("a", 3, 3)]],
        "any obstruction of observations": ("cycle", [None, ("a", 1)]),
        "any complete order": [("a", 4), ("b", 3)],
        "other line": ("b", 2),
        "final content": content,
        "state": good_state(),
        "any state": good_state(),
        "actions": [("append", "a", 1), ("save", "b"), ("read", "a")],
        "weights": {"b": [2, -1, 0], "a": [MOST, 5], "n": []},
        "uniform": {"b": (3, -1), "a": (2, 5)},
        "total": 7,
        "free line set": {"b": [(1, 1), (3, 3)], "n": [], "a": [(2, MOST)]},
        "free schedule": schedule + [("save", "zz"), ("append", "b", MOST)],
        "free state": ({"b": 1, "a": 0}, [("c", 2, 3)], {"b": [("b", 5, 5)], "a": ()}),
    }[kind]


def good_state():
    """A state of the good line counts: b holds a copy, and five lines are left."""
    return ({"b": 1, "a": 1, "n": 0}, [("b", 1, 1), ("a", 1, 1)], {"b": [("b", 1, 1)]})


def random_line_set(chance, counts):
    lines = [(writer, number) for writer in counts for number in range(1, counts[writer] + 1)]
    return line_set_of(chance.sample(lines, chance.randint(0, len(lines))))


def random_save_order(chance):
    order = []
    for _ in range(chance.randint(1, 6)):
        writer = chance.choice([name for name in "abc" if not (order and order[-1][0] == name)])
        order.append((writer, chance.randint(1, 4)))
    return order


def random_values(chance):
    """New valid arguments for the same line counts, by their kinds."""
    counts = {"b": 3, "a": 4, "c": 2, "n": 0}
    content = random_content(chance, counts, 4) or [("a", 1, 2)]
    if chance.random() < 0.7:
        content = random_final(chance, counts, 5)
    runs = len(content)
    total = len(expand(content))
    schedule = random_schedule(chance, counts, chance.randint(0, 8))
    found = overwrites.gaps(counts, content) or [("b", 1, 1, 0, 0)]
    order = random_save_order(chance)
    outcomes = save_orders.count_outcomes(order)
    outcome = save_orders.nth_outcome(order, chance.randrange(outcomes))
    seen = random_pages(chance, model_after(counts, schedule))
    state, actions = random_state(chance, counts)
    return {
        "any": list(content),
        "any schedule": list(schedule),
        "any obstruction": chance.choice([("start",), ("end",), ("split", 1), ("decreasing", 2)]),
        "any indices": sorted(chance.sample(range(runs), chance.randint(0, runs))),
        "any gaps": sorted(chance.sample(found, chance.randint(0, len(found)))),
        "counts": counts,
        "content": list(content),
        "free content": content,
        "line": ("a", chance.randint(1, 4)),
        "free line": ("a", chance.randint(1, 9)),
        "index": chance.randint(0, total - 1),
        "part": chance.randint(0, total),
        "run index": chance.randint(0, runs - 1),
        "schedule": schedule,
        "log": model_after(counts, schedule).log(),
        "line set": random_line_set(chance, counts),
        "any obstruction of a set": chance.choice([("no last",), ("gaps", "a", 1, 0)]),
        "any atomic obstruction": ("atomic", chance.choice(found)),
        "any outcome": list(outcome),
        "table": {writer: chance.randint(0, 2) for writer in "abn" if chance.random() < 0.7},
        "size": chance.randint(0, 9),
        "atomic set": random_line_set(chance, counts),
        "save order": order,
        "outcome index": chance.randrange(outcomes),
        "outcome": outcome,
        "saved line": (order[0][0], 1),
        "observations": [list(runs) for runs in seen] + ([content] if chance.random() < 0.3 else []),
        "consistent observations": seen,
        "any obstruction of observations": ("conflict", 0, 1, ("a", chance.randint(1, 4))),
        "any complete order": [("a", 4), ("c", 2), ("b", 3)],
        "other line": ("b", chance.randint(1, 3)),
        "final content": random_final(chance, counts, 5),
        "state": state,
        "any state": state,
        "actions": actions,
        "weights": {name: [chance.randint(-9, 9) for _ in range(chance.randint(0, 3))]
                    for name in chance.sample("abcd", 3)},
        "uniform": {name: (chance.randint(0, 4), chance.randint(-5, 5)) for name in "ba"},
        "total": chance.randint(-10, 10),
        "free line set": random_line_set(chance, counts),
        "free schedule": list(schedule),
        "free state": (dict(state[0]), list(state[1]), dict(state[2])),
    }


def random_pages(chance, model):
    """Some of the contents on the page over time."""
    places = sorted(chance.choices(range(len(model.history)), k=chance.randint(1, 4)))
    return [compress(model.history[place]) for place in places]


def random_state(chance, counts):
    """A state in which at least two lines are saved, and actions that go on from it."""
    while True:
        schedule = random_schedule(chance, counts, 14, 2)
        cut = chance.randint(2, 9)
        model = model_after(counts, schedule[:cut])
        if sum(model.saved.values()) > 1:
            copies = {holder: compress(copy) for holder, copy in model.copies.items()}
            return (model.saved, compress(model.page), copies), schedule[cut:]


def random_arguments(chance, kinds):
    values = random_values(chance)
    return [list(values[kind]) if kind == "free content" else values[kind] for kind in kinds]


def bad_lines():
    return [
        (), ("a",), ("a", 0), ("a", -1), ("a", 1, 1), ["a", 1], ("a", True), ("a", 1.0),
        ("a", "1"), ("a", None), ("a", [1]), (["a"], 1), (1, "a"), ("A", 1), ("", 1),
        ("abcdefghi", 1), ("a1", 1), ("\u00e4", 1), (b"a", 1), "a1", {"a": 1}, ("a", MOST + 1),
    ]


def bad_contents():
    return [
        {}, [()], [("a", 1)], [("a", 1, 1, 1)], [["a", 1, 1]], [("a", True, 1)], [("a", 1, True)],
        [("a", 1.0, 1)], [("a", 1, "1")], [("a", None, 1)], [(["a"], 1, 1)], [("a", 2, 1)],
        [("a", 0, 1)], [("a", -1, -1)], [("A", 1, 1)], [("", 1, 1)], [("abcdefghi", 1, 1)],
        [("a", 1, 1), ("a", 2, 2)], (("a", 1, 1), ("a", 2, 2)), ("a", 1, 1), "a1",
        {("a", 1, 1): 1}, {("a", 1, 1)}, [("a", 1, 1), Prickly()], [("a", Prickly(), 1)],
        [("a", 1, Prickly())], [(Prickly(), 1, 1)], [("a", 1, MOST + 1)], iter([("a", 1, 1)]),
        range(0), frozenset(), [("a", 1, 1), ("b", 2, 2), ["a", 1, 1]],
    ]


def bad_counts():
    return [
        {}, [], (), "a", {"a": -1}, {"a": MOST + 1}, {"a": True}, {"a": False}, {"a": 1.0},
        {"a": "1"}, {"a": None}, {"a": [1]}, {"": 1}, {"abcdefghi": 1}, {"A": 1}, {"a1": 1},
        {1: 1}, {None: 1}, {("a",): 1}, {b"a": 1}, [("a", 1)], {"a"}, {"a": 1, "b": -1},
        {letter: 1 for letter in "abcdefghijklm"}, {"a": Prickly()}, {"\u00e4": 1},
    ]


def bad_integers():
    return [-1, -2, -6, 10 ** 40, -10 ** 40, "0", [0], (0,), 0.0, [], (), {0: 0}]


def bad_schedules():
    return [
        (), {}, "read a", (("append", "a", 1),), [("append", "a", 0)], [["read", "a"]],
        [("append", "c", 1)], [("append", "a", 5)], [("append", "a", True)], [("save", "a")],
        [("read", "a"), ("read", "a")], [("read", "n")], [("leave", "a")], [(Prickly(), "a")],
    ]


def bad_logs():
    return [
        (), {}, "log", (("a", 1, 1, None),), [["a", 1, 1, None]], [("a", 1, 1)],
        [("a", 2, 1, None)], [("a", 0, 1, None)], [("a", 1, 5, None)], [("c", 1, 1, None)],
        [("a", True, 1, None)], [("a", 1, 1, ("c", 1))], [("a", 1, 1, ("a", 5))],
        [("a", 1, 1, ["b", 1])], [("a", 1, 1, ("b", True))], [("a", 1, 1, Prickly())],
        [("a", 1, 1, None), ("a", 2, 2, ("a", 1))],
    ]


def bad_line_sets():
    return [
        [], (), "a", [("a", 1, 1)], [("a", [(1, 1)])], {"a"}, {"c": []}, {"c": [(1, 1)]},
        {"A": []}, {"": []}, {1: []}, {None: []}, {b"a": []}, {("a", 1): []},
        {"a": [(1, 5)]}, {"a": [(5, 5)]}, {"a": [(0, 1)]}, {"a": [(-1, 1)]}, {"a": [(2, 1)]},
        {"a": [(1, 1), (2, 3)]}, {"a": [(1, 2), (2, 3)]}, {"a": [(3, 3), (1, 1)]},
        {"a": [(1, 1), (1, 1)]}, {"a": ((1, 1),)}, {"a": ()}, {"a": [[1, 1]]}, {"a": [(1,)]},
        {"a": [(1, 1, 1)]}, {"a": [1, 1]}, {"a": (1, 1)}, {"a": [(True, 1)]}, {"a": [(1, True)]},
        {"a": [(1.0, 1)]}, {"a": [(1, "1")]}, {"a": [None]}, {"a": None}, {"a": {}}, {"a": "1"},
        {"a": {(1, 1)}}, {"a": {(1, 1): 1}}, {"n": [(0, 0)]}, {"n": [(1, 1)]}, {"n": None},
        {"a": [(1, 1)], "b": [(4, 4)]}, {"a": [(1, 1)], "z": []}, {"a": [Prickly()]},
        {"a": [(Prickly(), 1)]}, {"a": [(1, Prickly())]}, {"a": [("a", 1, 1)]},
        {"a": [(1, MOST + 1)]}, {"a": [(1, 1), [3, 3]]}, {"a": True}, {"a": 1},
    ]


def bad_tables():
    return [
        [], (), "a", [("a", 1)], {"a"}, {"c": 1}, {"c": 0}, {"a": 1, "z": 0}, {"A": 1}, {"": 1},
        {1: 1}, {None: 0}, {b"a": 1}, {("a",): 1}, {"a": -1}, {"a": MOST + 1}, {"a": 10 ** 40},
        {"a": True}, {"a": False}, {"a": 1.0}, {"a": "1"}, {"a": None}, {"a": [1]}, {"a": (1,)},
        {"a": 1, "b": -1}, {"n": -1}, {"a": Prickly()},
    ]


def bad_save_orders():
    return [
        [], (), {}, "a1", (("a", 1),), {"a": 1}, {("a", 1)}, [["a", 1]], [("a",)], [()],
        [("a", 1, 1)], [("a", 0)], [("a", -1)], [("a", True)], [("a", False)], [("a", 1.0)],
        [("a", "1")], [("a", None)], [("A", 1)], [("", 1)], [("abcdefghi", 1)], [(1, 1)],
        [(None, 1)], [(["a"], 1)], [("a", 1), ("a", 1)], [("a", 1), ("b", 1), ("b", 2)],
        [("a", MOST + 1)], [("a", MOST), ("b", 1), ("a", 1)], [("a", 1), Prickly()],
        [(letter, 1) for letter in "abcdefghijklm"], [(Prickly(), 1)], [("a", Prickly())],
    ]


def bad_outcomes():
    return bad_contents() + [
        [], (), [("a", 1, 2)], [("a", 3, 3)], [("b", 1, 1)], [("a", 2, 3)], [("a", 1, 4)],
        [("a", 1, 3), ("b", 1, 1)], [("c", 1, 1), ("a", 3, 3)], [("b", 1, 1), ("a", 1, 3)],
    ]


def bad_observations():
    return [
        [], (), {}, "a", [[]] * 13, ((),) * 14, [("a", 1, 1)], (("a", 1, 1),), [[("a", 1, 5)]],
        [[("c", 1, 1)]], [[("n", 1, 1)]], [[["a", 1, 1]]], [[("a", True, 1)]], [[("a", 1)]],
        [[("a", 1, 1), ("a", 2, 2)]], [[], None], [[], "", []], [[], {}], [[], Prickly()],
        [[("a", 1, 1), Prickly()]], {0: []}, iter([[]]), [set()], [iter([])], [range(0)],
    ]


def inconsistent_observations():
    return [
        [[("a", 2, 2)]], [[("a", 1, 1)], []], [[("b", 1, 1), ("b", 1, 1)]],
        [[("a", 1, 1), ("b", 1, 1)], [("b", 1, 1)]], [[("a", 1, 2)], [("a", 1, 1)]],
        [[("a", 1, 1)], [("b", 1, 1)], [("a", 1, 1)]], [[("a", 1, 1), ("a", 3, 3)]],
    ]


def bad_states():
    """States with one part changed."""
    saved, page, copies = good_state()
    return [
        (), (saved, page), (saved, page, copies, {}), [saved, page, copies], {}, "state",
        ({"b": 1, "a": 1}, page, copies), ({"b": 1, "a": 1, "n": 0, "c": 0}, page, copies),
        ({"b": 1, "a": True, "n": 0}, page, copies), ({"b": 1, "a": 5, "n": 0}, page, copies),
        ({"b": 1, "a": -1, "n": 0}, page, copies), ({"b": 1, "a": 1, "n": False}, page, copies),
        ({"b": 2, "a": 1, "n": 0}, page, copies), ({"b": 1, "a": 2, "n": 0}, page, copies),
        ({"b": 1, "a": 0, "n": 0}, page, copies), ({"b": 3, "a": 1, "n": 0}, page, copies),
        ({"b": 1, "a": 1, 0: 0}, page, copies), ([1, 1, 0], page, copies), (None, page, copies),
        (saved, [], copies), (saved, [("a", 1, 1), ("b", 1, 1)], copies),
        (saved, [("b", 1, 1), ("a", 2, 2)], copies), (saved, None, copies), (saved, {}, copies),
        (saved, [("b", 1, 1), ["a", 1, 1]], copies), (saved, Prickly(), copies),
        (saved, page, {"b": []}), (saved, page, {"n": []}), (saved, page, {"c": []}),
        (saved, page, {"b": [("a", 1, 1)]}), (saved, page, {"b": [("b", 1, 2)]}),
        (saved, page, {"b": None}), (saved, page, []), (saved, page, None), (saved, page, {1: []}),
        (saved, page, {"b": [("b", 1, 1), ("b", 1, 1)]}), (saved, page, {None: []}),
        (saved, page, {"b": Prickly()}), (Prickly(), page, copies), (saved, page, Prickly()),
        (saved, copies, page), (page, saved, copies), ({}, [], {}),
    ]


def bad_weights():
    return [
        {}, [], (), "a", [("a", [1])], {"a"}, {"a": (1,)}, {"a": ()}, {"a": 1}, {"a": None},
        {"a": "1"}, {"a": {}}, {"a": {1}}, {"a": range(2)}, {"a": [True]}, {"a": [1, False]},
        {"a": [1.0]}, {"a": ["1"]}, {"a": [None]}, {"a": [[1]]}, {"A": [1]}, {"": []}, {1: []},
        {None: [1]}, {b"a": [1]}, {"abcdefghi": []}, {"a": [1], "b": [Prickly()]},
        {letter: [] for letter in "abcdefghijklm"}, {"a": iter([1])}, {("a",): [1]},
    ]


def bad_uniforms():
    return [
        {}, [], (), "a", [("a", (1, 1))], {"a"}, {"a": [1, 1]}, {"a": ()}, {"a": (1,)},
        {"a": (1, 1, 1)}, {"a": 1}, {"a": None}, {"a": (-1, 1)}, {"a": (MOST + 1, 1)},
        {"a": (True, 1)}, {"a": (1, True)}, {"a": (1.0, 1)}, {"a": (1, 1.0)}, {"a": ("1", 1)},
        {"a": (1, None)}, {"a": (None, 1)}, {"A": (1, 1)}, {"": (1, 1)}, {1: (1, 1)},
        {"abcdefghi": (1, 1)}, {"a": (1, 1), "b": (1, 1), "c": (1, 1)}, {"a": (1, Prickly())},
        {"a": (Prickly(), 1)}, {"a": (1, 1), "b": [1, 1]}, {None: (1, 1)}, {"a": {1: 1, 2: 2}},
    ]


def bad_free_line_sets():
    return [
        [], (), "a", [("a", [(1, 1)])], {"a"}, {"A": []}, {"": []}, {1: []}, {None: []},
        {b"a": []}, {"abcdefghi": []}, {"a": [(0, 1)]}, {"a": [(2, 1)]}, {"a": [(1, 1), (2, 3)]},
        {"a": [(3, 3), (1, 1)]}, {"a": ((1, 1),)}, {"a": [[1, 1]]}, {"a": [(1,)]}, {"a": [(1, 1, 1)]},
        {"a": [(True, 1)]}, {"a": [(1, True)]}, {"a": [(1.0, 1)]}, {"a": [None]}, {"a": None},
        {"a": [(1, MOST + 1)]}, {"a": {(1, 1)}}, {"a": [(Prickly(), 1)]}, {"a": [], "b": ()},
    ]


def bad_free_schedules():
    return [
        (), {}, "read a", (("read", "a"),), [["read", "a"]], [("read",)], [("read", "a", 1)],
        [("append", "a")], [("append", "a", 0)], [("append", "a", -1)], [("append", "a", True)],
        [("append", "a", MOST + 1)], [("append", "a", 1.0)], [("append", "a", "1")],
        [("leave", "a")], [("Read", "a")], [("read", "A")], [("read", "")], [("read", "abcdefghi")],
        [("read", 1)], [("read", None)], [(1, "a")], [(Prickly(), "a")], [("read", Prickly())],
        [("read", "a"), "save a"], [("append", "a", Prickly())], [()], [None],
    ]


def bad_free_states():
    saved, page, copies = good_state()
    return [
        (), (saved, page), (saved, page, copies, {}), [saved, page, copies], {}, "state",
        ({}, page, {}), ({"a": True}, page, {}), ({"a": -1}, page, {}), (None, page, copies),
        (saved, None, copies), (saved, {}, copies), (saved, "b1", copies), (saved, [["b", 1, 1]], {}),
        (saved, [("b", 1, 1), ("b", 2, 2)], {}), (saved, [("b", 0, 1)], {}), (saved, page, []),
        (saved, page, None), (saved, page, {"c": []}), (saved, page, {1: []}), (saved, page, {"b": None}),
        (saved, page, {"b": [("b", 2, 1)]}), (saved, page, {"b": {}}), (saved, page, {None: []}),
        (Prickly(), page, copies), (saved, Prickly(), copies), (saved, page, Prickly()),
        (saved, page, {"b": Prickly()}), ({"A": 1}, page, {}), (page, saved, copies),
    ]


def bad_values(kind):
    """New wrong arguments of a kind, beside the good values of the other arguments."""
    values = odd_values()
    if kind == "total":
        values = [value for value in values if type(value) is not int]
    if "observations" in kind:
        values = [value for value in values if not is_one_empty_content(value)]
    return values + {
        "counts": bad_counts,
        "line": lambda: bad_lines() + [[], {}, ("c", 1), ("a", 5), ("n", 0), ("n", 1)],
        "free line": lambda: bad_lines() + [[], {}],
        "content": lambda: bad_contents() + [[("c", 1, 1)], [("a", 1, 5)], [("n", 1, 1)]],
        "free content": bad_contents,
        "index": lambda: bad_integers() + [6, 7],
        "part": lambda: bad_integers() + [7, 8],
        "run index": lambda: bad_integers() + [3, 4],
        "schedule": bad_schedules,
        "log": bad_logs,
        "line set": bad_line_sets,
        "table": bad_tables,
        "size": lambda: bad_integers() + [61, 62, MOST],
        "atomic set": bad_line_sets,
        "save order": bad_save_orders,
        "outcome index": lambda: bad_integers() + [4, 5, MOST],
        "outcome": bad_outcomes,
        "saved line": lambda: bad_lines() + [[], {}, ("a", 4), ("b", 2), ("c", 1)],
        "observations": bad_observations,
        "consistent observations": lambda: bad_observations() + inconsistent_observations(),
        "other line": lambda: bad_lines() + [[], {}, ("c", 1), ("a", 5), ("n", 0), ("n", 1)],
        "final content": lambda: bad_contents() + [
            [], [("a", 1, 1)], [("a", 3, 4)], [("b", 1, 1), ("b", 3, 3)], [("c", 1, 1)]],
        "state": bad_states,
        "actions": lambda: bad_schedules() + [[("read", "b")], [("append", "b", 1)]],
        "weights": bad_weights,
        "uniform": bad_uniforms,
        "total": lambda: ["0", [0], (0,), 0.0, 7.0, [], (), {}, {0: 0}, b"7", "7"],
        "free line set": bad_free_line_sets,
        "free schedule": bad_free_schedules,
        "free state": bad_free_states,
    }[kind]()
