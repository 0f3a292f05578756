"""What is returned is plain, and equal calls have equal answers (point 2)."""

import random
import unittest

from backseen import (
    building, cases, comparing, counting, joining, looked, looking, machines, papers, rounds, sides, single, telling,
    towers, undecided, wholes, windows, words,
)
import oracles
from oddities import EVEN, EVERY, NONE

SIX = ("ab", ((0, 1), (None, 2), (3, 2), (1, 0)), (0, 1))
SAMPLE = ("ab", "aba", "bbab")
SIDES = ("ab", ("ab", "abb"), ("a", "ba"))
TWO = ("ab", ((1, None), (2, None), (None, 3), (None, None)), (1, 3))
NO_LOOK = ("ab", ((1, 2), (None, 1), (3, 2), (None, None)), (1, 2, 3))
ROWS = (("ends", "ab", "bbab"),)
CALLS = [
    (words.is_letters, "ab"), (words.is_word, "ab", "c"), (words.is_look, 1), (words.is_sample, "ab", ("a",)),
    (words.comes_before, "a", "b"), (words.words_up_to, "ab", 4), (words.common_end, "aab", "ab"),
    (words.are_alike, "a", "ba", 1), (words.beginnings, "ab", SAMPLE), (machines.is_machine, SIX),
    (machines.state_behind, SIX, "bb"), (machines.state_behind, SIX, "ba"), (machines.takes, SIX, "a"),
    (machines.first_words, SIX), (machines.last_words, SIX), (machines.is_least, SIX), (machines.least_of, SIX),
    (machines.machine_from, "ab", ((0, 1), (None, 1)), (0, 1), 0), (machines.tree_of, "ab", SAMPLE),
    (comparing.telling_word, SIX, EVEN), (comparing.outside_word, EVEN, EVERY), (comparing.inside_paper, EVEN, EVERY),
    (comparing.inside_paper, EVERY, EVEN), (comparing.accepts_inside, EVEN, EVERY, ("inside", ((0, 0), (1, 0)))),
    (comparing.common, SIX, EVEN), (looking.clashes, SIX), (looking.pairs_back, SIX, 2), (looking.has_property, SIX, 2),
    (looking.is_of_look, SIX, 6), (looking.five_against, SIX, 5), (looking.five_against, SIX, 6),
    (looking.accepts_five, SIX, 5, ("bb", "bba", "abaab", "baa", "")), (joining.is_must, "ab", SAMPLE, 1, "bbaba"),
    (joining.greatest_look, "ab", SAMPLE, "ab"), (joining.greatest_look, "ab", SAMPLE, ""),
    (joining.classes, "ab", SAMPLE, 1), (joining.seen_machine, "ab", SAMPLE, 1), (joining.closure, "ab", SAMPLE, 1),
    (papers.paper_for, "ab", SAMPLE, 1, "bbaba"), (papers.paper_for, "ab", SAMPLE, 1, "bb"),
    (papers.accepts_paper, "ab", SAMPLE, 1, "ab", ("must", (), ("", "a", "ab"))), (papers.joins_for, "ab", SAMPLE, 1),
    (papers.accepts_joins, "ab", SAMPLE, 1, ROWS), (rounds.rounds, "ab", SAMPLE, 1, 6),
    (rounds.words_by_round, "ab", SAMPLE, 1, 6), (rounds.rows_for, "ab", SAMPLE, 1, "bbaba"),
    (rounds.accepts_rows, "ab", SAMPLE, 1, "ab", (("seen", "ab"),)), (counting.count_at, SIX, 5),
    (counting.count_up_to, SIX, 5), (counting.nth_word, SIX, 7), (counting.nth_word, NONE, 7),
    (counting.count_before, SIX, "bb"), (counting.index_of, SIX, "a"), (counting.index_of, SIX, "bb"),
    (counting.longest_word, SIX), (counting.longest_word, NONE), (counting.loop_of, SIX), (counting.is_narrow, SIX),
    (counting.growth_degree, NONE), (counting.growth_evidence, SIX), (counting.growth_evidence, NONE),
    (counting.accepts_growth, EVEN, ("wide", "", "bb", "aa", "")),
    (looked.looked_states, EVEN, 2), (looked.looked_machine, EVEN, 2), (wholes.closure_of, TWO, 0),
    (wholes.together, TWO, EVEN, 1), (wholes.whole_classes, (TWO, EVEN), 0), (wholes.whole_paper, (TWO,), 0, "aabab"),
    (wholes.whole_paper, (TWO,), 0, "b"), (wholes.accepts_whole, (TWO,), 1, "aabab", ("free", TWO)),
    (wholes.whole_joins, (TWO, EVEN), 0), (wholes.accepts_whole_joins, (TWO,), 0, (("ends", 1, 3),)),
    (wholes.first_added, TWO, 0), (wholes.first_added, TWO, 1), (building.union_of, TWO, EVEN),
    (building.complement_of, TWO), (building.union_paper, TWO, EVEN, 0), (building.union_paper, EVERY, EVEN, 0),
    (building.complement_paper, TWO, 1), (building.complement_paper, EVERY, 1),
    (building.accepts_union, EVERY, EVEN, 0, ("kept", EVERY)), (building.accepts_complement, EVERY, 0, ("kept", NONE)),
    (windows.window_table, "ab", SAMPLE, 1), (windows.window_machine, "ab", SAMPLE, 1),
    (windows.is_in_windows, "ab", SAMPLE, 1, "abab"), (windows.window_paper, "ab", SAMPLE, 1, "abab"),
    (windows.window_paper, "ab", SAMPLE, 1, "aa"), (windows.accepts_window, "ab", SAMPLE, 1, "aa", ("out", 0)),
    (windows.first_free_in_windows, "ab", SAMPLE, 1), (windows.windows_of, TWO, 1), (windows.is_windowed, TWO, 1),
    (windows.windowed_against, EVEN, 3), (windows.windowed_against, EVERY, 3),
    (windows.accepts_windowed, EVEN, 0, ("", "a", "", "", "a")), (single.least_look, SIX), (single.least_look, NO_LOOK),
    (single.look_evidence, SIX), (single.look_evidence, NO_LOOK), (single.accepts_look, EVEN, ("look", 0, ())),
    (sides.are_apart, *SIDES, 1), (sides.apart_paper, *SIDES, 0), (sides.apart_paper, *SIDES, 1),
    (sides.accepts_apart, *SIDES, 1, ("apart", NONE)), (sides.verdict, *SIDES, 1, "abbb"),
    (sides.verdict_paper, *SIDES, 0, "abbb"), (sides.verdict_paper, *SIDES, 1, "abbb"),
    (sides.verdict_paper, *SIDES, 1, "ba"), (sides.verdict_paper, *SIDES, 1, "aab"),
    (sides.accepts_verdict, *SIDES, 1, "abbb", ("must", (("ends", "ab", "abb"),), ("", "a", "ab", "ab", "ab"))),
    (sides.least_apart, *SIDES), (sides.least_apart, "ab", ("a",), ("a",)), (sides.least_apart_paper, *SIDES),
    (sides.least_apart_paper, "ab", ("a",), ("a",)), (sides.accepts_least_apart, "ab", ("a",), ("a",), ("never", "a")),
    (sides.least_apart_from, TWO, ("aabab",)), (towers.tower, *SIDES, "abbb"), (towers.tower_paper, *SIDES, "abbb"),
    (towers.accepts_tower, "ab", ("a",), ("a",), "b", ("never", "a")), (cases.case_of, "ab", ("ab", "abb"), 1, "aab"),
    (cases.changed, "ab", ("ab", "abb"), 1, "aab"), (undecided.is_any_undecided, *SIDES, 1),
    (undecided.first_undecided, *SIDES, 1), (undecided.count_undecided, *SIDES, 1, 9),
    (undecided.undecided_paper, *SIDES, 0), (undecided.undecided_paper, *SIDES, 1),
    (undecided.undecided_paper, "a", ("", "aaaaa"), ("a",), 0),
    (undecided.accepts_undecided, "ab", ("", "a", "b", "ab"), (), 0, ("none", ())), (telling.telling_number, EVEN, 0),
    (telling.first_sample, EVEN, 0), (telling.tells, EVEN, 0, ("", "b")),
    (telling.thinned, EVERY, 0, ("", "a", "b", "ab")),
    (telling.is_needed, EVEN, 0, "b"), (telling.needed_words, EVERY, 2), (telling.needed_paper, EVERY, 2, "a"),
    (telling.needed_paper, EVERY, 0, "a"), (telling.accepts_needed, EVERY, 0, "a", ("needed", NONE)),
]


def is_plain(value):
    if type(value) is tuple:
        return all(is_plain(item) for item in value)
    return value is None or type(value) in (int, str, bool)


class Plain(unittest.TestCase):
    def test_point_2_plain_values_and_no_changed_arguments(self):
        names = {call[0].__name__ for call in CALLS}
        self.assertEqual(len(names), 9 + 9 + 5 + 6 + 5 + 4 + 4 + 11 + 2 + 8 + 6 + 10 + 3 + 10 + 3 + 2 + 5 + 8)
        for function, *arguments in CALLS:
            before = repr(arguments)
            self.assertTrue(is_plain(function(*arguments)), function.__name__)
            self.assertEqual(repr(arguments), before)

    def test_point_2_equal_answers_to_equal_calls(self):
        chance = random.Random(2)
        first = {}
        for _ in range(4):
            calls = list(CALLS)
            chance.shuffle(calls)
            for function, *arguments in calls:
                answer = repr(function(*arguments))
                self.assertEqual(first.setdefault((function.__name__, repr(arguments)), answer), answer)

    def test_point_2_true_and_1_are_not_equal_here(self):
        for _ in range(2):
            self.assertIs(words.is_look(1), True)
            self.assertIs(words.is_look(True), False)
            self.assertIs(machines.is_machine(("ab", ((0, 0),), (0,))), True)
            self.assertIs(machines.is_machine(("ab", ((False, 0),), (0,))), False)

    def test_point_8_and_9_judges_and_questions_answer_with_truths(self):
        for function, *arguments in CALLS:
            name = function.__name__
            if name.split("_")[0] in ("is", "accepts", "are", "has", "takes") or name == "comes_before":
                self.assertIs(type(function(*arguments)), bool, name)

    def test_point_9_evidence_of_the_library_is_accepted_by_its_judges(self):
        self.assertTrue(looking.accepts_five(SIX, 5, looking.five_against(SIX, 5)))
        for machine in oracles.random_machines(9, 30):
            self.assertTrue(counting.accepts_growth(machine, counting.growth_evidence(machine)))


if __name__ == "__main__":
    unittest.main()
