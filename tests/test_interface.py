"""The interface: names and arguments, each defined in the file that lists it."""

import inspect
import unittest

from lastcopy import (
    atomic, certainty, check_final, check_observations, check_overwrites, check_survivors, contents,
    commands, counting, errors, final, formats, observations, overwrites, page, save_orders,
    schedules, states, survivors, weights,
)

SIGNATURES = {
    contents: [
        "is_line_counts(value)", "is_line(line_counts, value)", "is_content(line_counts, value)",
        "is_line_set(line_counts, value)", "count_lines(content)", "line_at(content, index)",
        "index_of(content, line)", "is_prefix(content, other)", "append_line(content, line)",
        "split_at(content, count)", "reverse_content(line_counts, content)",
    ],
    schedules: [
        "is_schedule(line_counts, value)", "state_after(line_counts, schedule)",
        "page_history(line_counts, schedule)", "find_save(line_counts, schedule, line)",
        "content_at_save(line_counts, schedule, line)", "count_overwrites(line_counts, schedule)",
        "surviving_and_lost(line_counts, schedule)", "save_log(line_counts, schedule)",
        "first_invalid_save(line_counts, log)", "schedule_for_log(line_counts, log)",
    ],
    final: [
        "can_appear(line_counts, content)", "can_be_final(line_counts, content)",
        "final_obstruction(line_counts, content)", "schedule_to_final(line_counts, content)",
        "schedule_to_appear(line_counts, content)", "next_lines(line_counts, content)",
    ],
    check_final: [
        "is_final_obstruction(line_counts, content, value)",
        "is_schedule_to_final(line_counts, value, content)",
    ],
    overwrites: [
        "gaps(line_counts, content)", "min_overwrites(line_counts, content)",
        "overwrite_runs(line_counts, content)", "disjoint_gaps(line_counts, content)",
        "schedule_with_min_overwrites(line_counts, content)",
        "gaps_covered_by(line_counts, content, index)",
    ],
    check_overwrites: [
        "covers_all_gaps(line_counts, content, value)",
        "are_disjoint_gaps(line_counts, content, value)",
    ],
    survivors: [
        "lost_lines(line_counts, line_set)", "gap_counts(line_counts, line_set)",
        "can_survive(line_counts, line_set)", "survival_obstruction(line_counts, line_set)",
        "content_for(line_counts, line_set)", "lines_in_content(content)",
    ],
    check_survivors: ["is_survival_obstruction(line_counts, line_set, value)"],
    counting: [
        "can_survive_counts(line_counts, survivor_counts)", "min_surviving_lines(line_counts)",
        "count_survivor_sets(line_counts, size)",
        "count_contents_by_runs(line_counts, run_counts)", "count_final_contents(line_counts)",
    ],
    atomic: [
        "is_atomic_schedule(line_counts, atomic, value)",
        "can_be_final_atomic(line_counts, atomic, content)",
        "atomic_final_obstruction(line_counts, atomic, content)",
        "is_atomic_final_obstruction(line_counts, atomic, content, value)",
        "schedule_to_final_atomic(line_counts, atomic, content)",
        "min_non_atomic_lines(line_counts, content)",
        "required_non_atomic_lines(line_counts, atomic, content)",
        "count_atomic_sets(line_counts, content)",
    ],
    save_orders: [
        "line_counts_of(save_order)", "is_outcome(save_order, value)",
        "count_outcomes(save_order)", "nth_outcome(save_order, index)",
        "outcome_index(save_order, content)", "shortest_outcome(save_order)",
        "count_outcomes_with(save_order, line)",
        "count_outcomes_with_both(save_order, one, other)",
        "lines_in_all_outcomes(save_order)",
    ],
    observations: [
        "constraints(line_counts, observations, *, final=False)",
        "is_consistent(line_counts, observations, *, final=False)",
        "observation_obstruction(line_counts, observations, *, final=False)",
        "consistent_order(line_counts, observations, *, final=False)",
        "schedule_with_observations(line_counts, observations, *, final=False)",
    ],
    check_observations: [
        "is_observation_obstruction(line_counts, observations, value, *, final=False)",
        "satisfies_constraints(line_counts, observations, value, *, final=False)",
        "is_observed_in(line_counts, value, observations, *, final=False)",
    ],
    certainty: [
        "certain_order(line_counts, observations, first, second, *, final=False)",
        "min_saves_before(line_counts, observations, line, *, final=False)",
        "max_saves_before(line_counts, observations, line, *, final=False)",
        "orders_both_ways(line_counts, observations, first, second, *, final=False)",
        "min_saves_between(line_counts, observations, first, second, *, final=False)",
        "possible_first_writers(line_counts, observations, *, final=False)",
        "possible_last_writers(line_counts, observations, *, final=False)",
        "covering_runs(line_counts, content, line)",
        "schedule_covering(line_counts, content, line, by)",
    ],
    states: [
        "is_state(line_counts, value)", "schedule_to_state(line_counts, state)",
        "state_after_actions(line_counts, state, actions)", "possible_bases(line_counts, state)",
        "guaranteed_lines(line_counts, state)", "permanently_lost(line_counts, state)",
        "can_become_final(line_counts, state, content)",
        "finality_obstructions(line_counts, state, content)",
        "actions_to_final(line_counts, state, content)",
        "reachable_final_contents(line_counts, state)",
    ],
    weights: [
        "total_weights(weights)", "min_weight(weights, *, size=None)",
        "max_weight(weights, *, size=None)", "is_reachable_weight(uniform, total)",
        "lines_with_weight(uniform, total)",
    ],
    page: ["replay(line_counts, schedule)"],
    formats: [
        "format_line_counts(line_counts)", "format_content(content)", "format_line_set(line_set)",
        "format_schedule(schedule)", "format_state(state)", "parse_line_counts(text)",
        "parse_content(text)", "parse_line_set(text)", "parse_schedule(text)", "parse_state(text)",
    ],
}
CLASSES = {
    page.Page: [
        "__init__(self, line_counts)", "read_page(self, writer)", "save_line(self, writer)",
        "append_lines(self, writer, count)", "leave(self, writer)", "undo(self)", "redo(self)",
        "line_counts(self)", "content(self)", "held_copy(self, writer)", "remaining(self, writer)",
        "overwrite_count(self)", "state(self)", "schedule(self)", "fork(self)",
        "possible_bases(self)", "guaranteed_lines(self)", "permanently_lost(self)",
        "can_become_final(self, content)", "__len__(self)", "__eq__(self, other)",
    ],
    commands.Interpreter: ["__init__(self)", "execute(self, command)"],
}
ERROR_NAMES = [
    "LastCopyError", "InvalidAction", "UnknownWriter", "TooManyResults", "InvalidFormat",
    "InvalidLineCounts", "InvalidLine", "InvalidContent", "InvalidLineSet", "InvalidAtomicSet",
    "InvalidState", "InvalidSaveOrder", "InvalidObservations", "InvalidInteger",
    "InvalidNumbers", "EmptyHistory", "UnknownName", "DuplicateName", "InvalidCommand",
]


class InterfaceTest(unittest.TestCase):
    def test_signatures(self):
        for module, signatures in SIGNATURES.items():
            for signature in signatures:
                with self.subTest(signature):
                    function = getattr(module, signature.split("(")[0])
                    self.assertEqual(function.__name__ + str(inspect.signature(function)),
                                     signature)

    def test_each_function_is_defined_in_its_file(self):
        for module, signatures in SIGNATURES.items():
            for signature in signatures:
                function = getattr(module, signature.split("(")[0])
                self.assertEqual(function.__module__, module.__name__)

    def test_methods(self):
        for owner, signatures in CLASSES.items():
            for signature in signatures:
                with self.subTest(signature):
                    method = vars(owner)[signature.split("(")[0]]
                    self.assertEqual(method.__name__ + str(inspect.signature(method)), signature)
        self.assertEqual(page.Page.__module__, "lastcopy.page")
        self.assertEqual(commands.Interpreter.__module__, "lastcopy.commands")

    def test_each_error_is_defined_in_its_file(self):
        for name in ERROR_NAMES:
            self.assertEqual(getattr(errors, name).__module__, "lastcopy.errors")


if __name__ == "__main__":
    unittest.main()
