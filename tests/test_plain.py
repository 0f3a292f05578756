"""What is returned is plain, and equal calls have equal answers (point 2)."""

import inspect
import random
import unittest

from backseen import (
    building, cases, comparing, counting, desk, errors, fewest, joining, journals, learning, looked, looking, machines,
    mirrors, papers, reading, records, rounds, scanning, sides, single, teaching, telling, towers, undecided, wholes,
    windows, words, writing,
)
import oddities
import oracles
from oddities import EVEN, EVERY, NONE
from test_language import CLASSES, INTERFACE

SIX = ("ab", ((0, 1), (None, 2), (3, 2), (1, 0)), (0, 1))
SAMPLE = ("ab", "aba", "bbab")
SIDES = ("ab", ("ab", "abb"), ("a", "ba"))
TWO = ("ab", ((1, None), (2, None), (None, 3), (None, None)), (1, 3))
NO_LOOK = ("ab", ((1, 2), (None, 1), (3, 2), (None, None)), (1, 2, 3))
ROWS = (("ends", "ab", "bbab"),)
WORDS_B = ("ab", ((1, 2), (None, 2), (None, None)), (2,))
STARS = ("ab", ((1, None), (2, None), (None, 1)), (1,))
STEP = (("seen", "ab"), ("seen", "bb"), ("seen", "aba"), ("by", 0, 1, 2, 2))
JOURNAL = (("in", ""), ("in", "aa"), ("ask", "aaa"), ("out", "aaaaa"), ("raise",))
CLOSED = ("a", ("", "aaaaa"), ("a",), 0)
RECORDS = journals.replayed("a", 0, JOURNAL).records()
CALLS = [
    (words.is_letters, "ab"), (words.is_word, "ab", "c"), (words.is_look, 1), (words.is_sample, "ab", ("a",)),
    (words.comes_before, "a", "b"), (words.words_up_to, "ab", 4), (words.common_end, "aab", "ab"),
    (words.are_alike, "a", "ba", 1), (words.beginnings, "ab", SAMPLE), (machines.is_machine, SIX),
    (machines.state_behind, SIX, "bb"), (machines.state_behind, SIX, "ba"), (machines.takes, SIX, "a"),
    (machines.first_words, SIX), (machines.last_words, SIX), (machines.is_least, SIX), (machines.least_of, SIX),
    (machines.machine_from, "ab", ((0, 1), (None, 1)), (0, 1), 0), (machines.tree_of, "ab", SAMPLE),
    (comparing.telling_word, SIX, EVEN), (comparing.outside_word, EVEN, EVERY), (comparing.inside_paper, EVEN, EVERY),
    (comparing.inside_paper, EVERY, EVEN), (comparing.accepts_inside, EVEN, EVERY, ("inside", ((0, 0), (1, 0)))),
    (comparing.common, SIX, EVEN), (looking.clashes, SIX), (looking.pairs_back, SIX, 2), (looking.has_property, SIX, 2),
    (looking.is_of_look, SIX, 6), (looking.five_against, SIX, 5), (looking.five_against, SIX, 6),
    (looking.accepts_five, SIX, 5, ("bb", "bba", "abaab", "baa", "")), (joining.is_must, "ab", SAMPLE, 1, "bbaba"),
    (joining.greatest_look, "ab", SAMPLE, "ab"), (joining.greatest_look, "ab", SAMPLE, ""),
    (joining.classes, "ab", SAMPLE, 1), (joining.seen_machine, "ab", SAMPLE, 1), (joining.closure, "ab", SAMPLE, 1),
    (papers.paper_for, "ab", SAMPLE, 1, "bbaba"), (papers.paper_for, "ab", SAMPLE, 1, "bb"),
    (papers.accepts_paper, "ab", SAMPLE, 1, "ab", ("must", (), ("", "a", "ab"))), (papers.joins_for, "ab", SAMPLE, 1),
    (papers.accepts_joins, "ab", SAMPLE, 1, ROWS), (rounds.rounds, "ab", SAMPLE, 1, 6),
    (rounds.words_by_round, "ab", SAMPLE, 1, 6), (rounds.rows_for, "ab", SAMPLE, 1, "bbaba"),
    (rounds.accepts_rows, "ab", SAMPLE, 1, "ab", (("seen", "ab"),)), (counting.count_at, SIX, 5),
    (counting.count_up_to, SIX, 5), (counting.nth_word, SIX, 7), (counting.nth_word, NONE, 7),
    (counting.count_before, SIX, "bb"), (counting.index_of, SIX, "a"), (counting.index_of, SIX, "bb"),
    (counting.longest_word, SIX), (counting.longest_word, NONE), (counting.loop_of, SIX), (counting.is_narrow, SIX),
    (counting.growth_degree, NONE), (counting.growth_evidence, SIX), (counting.growth_evidence, NONE),
    (counting.accepts_growth, EVEN, ("wide", "", "bb", "aa", "")),
    (looked.looked_states, EVEN, 2), (looked.looked_machine, EVEN, 2), (wholes.closure_of, TWO, 0),
    (wholes.together, TWO, EVEN, 1), (wholes.whole_classes, (TWO, EVEN), 0), (wholes.whole_paper, (TWO,), 0, "aabab"),
    (wholes.whole_paper, (TWO,), 0, "b"), (wholes.accepts_whole, (TWO,), 1, "aabab", ("free", TWO)),
    (wholes.whole_joins, (TWO, EVEN), 0), (wholes.accepts_whole_joins, (TWO,), 0, (("ends", 1, 3),)),
    (wholes.first_added, TWO, 0), (wholes.first_added, TWO, 1), (building.union_of, TWO, EVEN),
    (building.complement_of, TWO), (building.union_paper, TWO, EVEN, 0), (building.union_paper, EVERY, EVEN, 0),
    (building.complement_paper, TWO, 1), (building.complement_paper, EVERY, 1),
    (building.accepts_union, EVERY, EVEN, 0, ("kept", EVERY)), (building.accepts_complement, EVERY, 0, ("kept", NONE)),
    (windows.window_table, "ab", SAMPLE, 1), (windows.window_machine, "ab", SAMPLE, 1),
    (windows.is_in_windows, "ab", SAMPLE, 1, "abab"), (windows.window_paper, "ab", SAMPLE, 1, "abab"),
    (windows.window_paper, "ab", SAMPLE, 1, "aa"), (windows.accepts_window, "ab", SAMPLE, 1, "aa", ("out", 0)),
    (windows.first_free_in_windows, "ab", SAMPLE, 1), (windows.windows_of, TWO, 1), (windows.is_windowed, TWO, 1),
    (windows.windowed_against, EVEN, 3), (windows.windowed_against, EVERY, 3),
    (windows.accepts_windowed, EVEN, 0, ("", "a", "", "", "a")), (single.least_look, SIX), (single.least_look, NO_LOOK),
    (single.look_evidence, SIX), (single.look_evidence, NO_LOOK), (single.accepts_look, EVEN, ("look", 0, ())),
    (sides.are_apart, *SIDES, 1), (sides.apart_paper, *SIDES, 0), (sides.apart_paper, *SIDES, 1),
    (sides.accepts_apart, *SIDES, 1, ("apart", NONE)), (sides.verdict, *SIDES, 1, "abbb"),
    (sides.verdict_paper, *SIDES, 0, "abbb"), (sides.verdict_paper, *SIDES, 1, "abbb"),
    (sides.verdict_paper, *SIDES, 1, "ba"), (sides.verdict_paper, *SIDES, 1, "aab"),
    (sides.accepts_verdict, *SIDES, 1, "abbb", ("must", (("ends", "ab", "abb"),), ("", "a", "ab", "ab", "ab"))),
    (sides.least_apart, *SIDES), (sides.least_apart, "ab", ("a",), ("a",)), (sides.least_apart_paper, *SIDES),
    (sides.least_apart_paper, "ab", ("a",), ("a",)), (sides.accepts_least_apart, "ab", ("a",), ("a",), ("never", "a")),
    (sides.least_apart_from, TWO, ("aabab",)), (towers.tower, *SIDES, "abbb"), (towers.tower_paper, *SIDES, "abbb"),
    (towers.accepts_tower, "ab", ("a",), ("a",), "b", ("never", "a")), (cases.case_of, "ab", ("ab", "abb"), 1, "aab"),
    (cases.changed, "ab", ("ab", "abb"), 1, "aab"), (undecided.is_any_undecided, *SIDES, 1),
    (undecided.first_undecided, *SIDES, 1), (undecided.count_undecided, *SIDES, 1, 9),
    (undecided.undecided_paper, *SIDES, 0), (undecided.undecided_paper, *SIDES, 1),
    (undecided.undecided_paper, "a", ("", "aaaaa"), ("a",), 0),
    (undecided.accepts_undecided, "ab", ("", "a", "b", "ab"), (), 0, ("none", ())), (telling.telling_number, EVEN, 0),
    (telling.first_sample, EVEN, 0), (telling.tells, EVEN, 0, ("", "b")),
    (telling.thinned, EVERY, 0, ("", "a", "b", "ab")),
    (telling.is_needed, EVEN, 0, "b"), (telling.needed_words, EVERY, 2), (telling.needed_paper, EVERY, 2, "a"),
    (telling.needed_paper, EVERY, 0, "a"), (telling.accepts_needed, EVERY, 0, "a", ("needed", NONE)),
    (teaching.tells_paper, EVEN, 0, ("", "b", "aa", "aba")), (teaching.tells_paper, EVEN, 0, ("a",)),
    (teaching.tells_paper, EVEN, 0, ("b", "bb")), (teaching.accepts_tells, EVEN, 0, ("a",), ("not within", "a")),
    (teaching.teaching, WORDS_B), (teaching.teaching, EVEN), (learning.first_missing, STARS, 0, ("a",)),
    (learning.learned, "ab", ("a", "aab"), ("aabab",)), (learning.learned, "ab", ("a",), ("a",)),
    (learning.shown_words, STARS, 0, ()), (learning.shown_words, STARS, 0, ("a", "aab")),
    (mirrors.reversed_machine, SIX), (mirrors.reversed_sample, "ab", SAMPLE), (mirrors.rest_of, SIX, "ab"),
    (mirrors.completed_by, SIX, "ab"), (mirrors.renamed, SIX, "zc"),
    (mirrors.replaced_back, SIX, "xyz", ("a", "ab", "")),
    (mirrors.reversed_rows, "ab", ("ab", "bb", "aba"), 1, "bba", STEP), (scanning.scan, "ON -,ab: 12*"),
    (reading.next_tokens, "MACHINE ab: a 1"), (reading.read_sample, "SAMPLE ab: -, b"),
    (reading.read_machine, "MACHINE ab: * a 1 b 0; a 0 b 1"), (reading.read_paper, "MUST a: ENDS -, a; WAY -, -"),
    (reading.read_records, "RECORDS a 1: IN a RAISE ASK a PAPER 0 MUST WAY -, a"), (writing.sample_text, "ab", SAMPLE),
    (writing.machine_text, SIX), (writing.paper_text, "ab", ("must not", "b", ROWS, ("", "b"))),
    (writing.paper_text, "ab", ("open", SIX, NONE)), (writing.records_text, "a", 0, RECORDS),
    (records.are_right, "a", 0, RECORDS), (records.are_right, "a", 0, ()), (fewest.fewest_papers, "a", 0, JOURNAL),
    (fewest.fewest_records, "a", 0, JOURNAL),
]
# Judges with evidence that they accept.
JUDGED = [
    (comparing.accepts_inside, (EVEN, EVERY), comparing.inside_paper(EVEN, EVERY)),
    (comparing.accepts_inside, (EVERY, EVEN), comparing.inside_paper(EVERY, EVEN)),
    (looking.accepts_five, (SIX, 5), looking.five_against(SIX, 5)),
    (papers.accepts_paper, ("ab", SAMPLE, 1, "bbaba"), papers.paper_for("ab", SAMPLE, 1, "bbaba")),
    (papers.accepts_paper, ("ab", SAMPLE, 1, "bb"), papers.paper_for("ab", SAMPLE, 1, "bb")),
    (papers.accepts_joins, ("ab", SAMPLE, 0), papers.joins_for("ab", SAMPLE, 0)),
    (rounds.accepts_rows, ("ab", ("ab", "bb", "aba"), 1, "bba"), STEP),
    (wholes.accepts_whole, ((TWO,), 0, "aabab"), wholes.whole_paper((TWO,), 0, "aabab")),
    (wholes.accepts_whole, ((TWO, EVEN), 1, "b"), wholes.whole_paper((TWO, EVEN), 1, "b")),
    (wholes.accepts_whole_joins, ((TWO, EVEN), 0), wholes.whole_joins((TWO, EVEN), 0)),
    (building.accepts_union, (TWO, EVEN, 0), building.union_paper(TWO, EVEN, 0)),
    (building.accepts_complement, (EVERY, 1), building.complement_paper(EVERY, 1)),
    (windows.accepts_window, ("ab", SAMPLE, 1, "abab"), windows.window_paper("ab", SAMPLE, 1, "abab")),
    (windows.accepts_window, ("ab", SAMPLE, 1, "aa"), windows.window_paper("ab", SAMPLE, 1, "aa")),
    (windows.accepts_windowed, (EVEN, 3), windows.windowed_against(EVEN, 3)),
    (single.accepts_look, (SIX,), single.look_evidence(SIX)),
    (single.accepts_look, (NO_LOOK,), single.look_evidence(NO_LOOK)),
    (sides.accepts_apart, (*SIDES, 0), sides.apart_paper(*SIDES, 0)),
    (sides.accepts_apart, (*SIDES, 1), sides.apart_paper(*SIDES, 1)),
    (sides.accepts_least_apart, SIDES, sides.least_apart_paper(*SIDES)),
    (towers.accepts_tower, (*SIDES, "abbb"), towers.tower_paper(*SIDES, "abbb")),
    (undecided.accepts_undecided, (*SIDES, 1), undecided.undecided_paper(*SIDES, 1)),
    (undecided.accepts_undecided, CLOSED, undecided.undecided_paper(*CLOSED)),
    (telling.accepts_needed, (EVERY, 2, "a"), telling.needed_paper(EVERY, 2, "a")),
    (telling.accepts_needed, (EVERY, 0, "a"), telling.needed_paper(EVERY, 0, "a")),
    (teaching.accepts_tells, (EVEN, 0, ("", "b", "aa", "aba")), teaching.tells_paper(EVEN, 0, ("", "b", "aa", "aba"))),
    (teaching.accepts_tells, (EVEN, 0, ("b", "bb")), teaching.tells_paper(EVEN, 0, ("b", "bb"))),
    (counting.accepts_growth, (EVEN,), counting.growth_evidence(EVEN)),
    (counting.accepts_growth, (WORDS_B,), counting.growth_evidence(WORDS_B)),
    (records.are_right, ("a", 0), RECORDS),
] + [
    (sides.accepts_verdict, (*SIDES, k, word), sides.verdict_paper(*SIDES, k, word))
    for k, word in ((0, "abbb"), (1, "abbb"), (1, "ba"), (1, "aab"))
]


FORMS = (words.is_letters, words.is_look, words.is_word, words.is_sample, machines.is_machine)


def spoiled(value):
    """The value with one thing in it of another kind.

    A list or an odd tuple stands for a tuple, a truth or a float for a number, an odd text for a text.
    """
    if type(value) is tuple:
        yield list(value)
        yield oddities.OddTuple(value)
        for at, item in enumerate(value):
            for other in spoiled(item):
                yield value[:at] + (other,) + value[at + 1:]
    elif type(value) is int:
        yield float(value)
        yield oddities.OddInteger(value)
        if value in (0, 1):
            yield value == 1
    elif type(value) is str:
        yield oddities.OddText(value)
        yield value.encode()
    elif value is None:
        yield False


def is_plain(value):
    if type(value) is tuple:
        return all(is_plain(item) for item in value)
    return value is None or type(value) in (int, str, bool)


class Plain(unittest.TestCase):
    def test_point_2_plain_values_and_no_changed_arguments(self):
        told = {name for module, names in INTERFACE.items() if module != "errors" for name in names.split()}
        # A replayed desk and the classes are no plain values.
        self.assertEqual({call[0].__name__ for call in CALLS}, told - set(CLASSES) - {"replayed"})
        for function, *arguments in CALLS:
            before = repr(arguments)
            returned = function(*arguments)
            if function in (scanning.scan, reading.next_tokens):
                self.assertIs(type(returned), list)
                returned = tuple(returned)
            self.assertTrue(is_plain(returned), function.__name__)
            self.assertEqual(repr(arguments), before)

    def test_point_2_equal_answers_to_equal_calls(self):
        chance = random.Random(2)
        first = {}
        for _ in range(4):
            calls = list(CALLS)
            chance.shuffle(calls)
            for function, *arguments in calls:
                answer = repr(function(*arguments))
                self.assertEqual(first.setdefault((function.__name__, repr(arguments)), answer), answer)

    def test_point_2_true_and_1_are_not_equal_here(self):
        for _ in range(2):
            self.assertIs(words.is_look(1), True)
            self.assertIs(words.is_look(True), False)
            self.assertIs(machines.is_machine(("ab", ((0, 0),), (0,))), True)
            self.assertIs(machines.is_machine(("ab", ((False, 0),), (0,))), False)

    def test_point_2_what_returns_a_list_returns_a_new_one(self):
        learner = learning.Learner("ab", 0)
        learner.add("a")
        for call in (lambda: scanning.scan("a 1 b"), lambda: reading.next_tokens(""), learner.log):
            one, before = call(), repr(call())
            self.assertIs(type(one), list)
            one.reverse()
            one.append(None)
            self.assertIsNot(call(), call())
            self.assertEqual(repr(call()), before)

    def test_point_2_learners_and_desks_keep_what_they_keep_apart(self):
        for make in (lambda: learning.Learner("ab", 0), lambda: desk.Desk("ab", 0)):
            one, other = make(), make()
            for each, word in ((one, "a"), (other, "bb"), (one, "ab")):
                each.add(word) if hasattr(each, "add") else each.act(("in", word))
            held = [each.words() if hasattr(each, "add") else each.words()[0] for each in (one, other, make())]
            self.assertEqual(held, [("a", "ab"), ("bb",), ()])

    def test_points_2_and_8_a_parameter_with_one_thing_of_another_kind(self):
        tried = 0
        made = [(journals.replayed, "a", 0, JOURNAL), (learning.Learner, "ab", 1), (desk.Desk, "ab", 1)]
        for function, *arguments in CALLS + made:
            names = list(inspect.signature(function).parameters)
            for at, name in enumerate(names):
                if name == "value" or function is records.are_right and name == "records":
                    continue
                if function.__name__.startswith("is_") and name != "letters" and function in FORMS:
                    continue
                for other in spoiled(arguments[at]):
                    wrong = arguments[:at] + [other] + arguments[at + 1:]
                    self.assertTrue(oddities.is_refused(function, wrong, name), (function.__name__, name))
                    tried += 1
        self.assertGreater(tried, 3000)

    def test_points_2_and_8_evidence_with_one_thing_of_another_kind(self):
        tried = 0
        told = {
            name for names in INTERFACE.values() for name in names.split() if name.startswith("accepts_")
        } | {"are_right"}
        self.assertEqual({judge.__name__ for judge, _, _ in JUDGED}, told)
        for judge, arguments, value in JUDGED:
            self.assertIs(judge(*arguments, value), True, judge.__name__)
            for other in spoiled(value):
                self.assertIs(judge(*arguments, other), False, judge.__name__)
                tried += 1
        self.assertGreater(tried, 1000)

    def test_points_2_and_8_forms_with_one_thing_of_another_kind(self):
        for function, *ahead, value in (
            (words.is_letters, "ab"), (words.is_look, 1), (words.is_word, "ab", "ba"),
            (words.is_sample, "ab", ("a", "ba")),
            (machines.is_machine, SIX),
        ):
            self.assertIs(function(*ahead, value), True)
            for other in spoiled(value):
                self.assertIs(function(*ahead, other), False)

    def test_points_2_and_203_commands_with_one_thing_of_another_kind(self):
        one = desk.Desk("ab", 0)
        for command in (("in", "a"), ("raise",), ("ask", "ab")):
            for other in spoiled(command):
                self.assertTrue(oddities.is_refused(one.act, (other,), "command"))
        learner = learning.Learner("ab", 0)
        for other in spoiled("ab"):
            for call in (learner.add, learner.take_back, learner.takes, one.verdict, one.paper):
                self.assertTrue(oddities.is_refused(call, (other,), "word"))

    def test_point_7_the_errors_and_their_attributes(self):
        for error, name, value in (
            (errors.BadValue, "name", "k"), (errors.TooLarge, "what", "states"), (errors.NotPossible, "why", "word"),
        ):
            self.assertEqual(getattr(error(value), name), value)
        for function, *arguments in (
            (reading.read_sample, "a"), (desk.Desk("a", 12).act, ("raise",)), (desk.Desk("a", 0).verdict, ""),
            (learning.Learner("a", 0).take_back, "a"), (teaching.teaching, NO_LOOK), (words.words_up_to, "abcd", 24),
            (writing.paper_text, "a", ("must", (), ("a" * 20000,))),
        ):
            with self.assertRaises(errors.SeenError) as caught:
                function(*arguments)
            self.assertEqual(len([1 for kind in (errors.BadValue, errors.TooLarge, errors.NotPossible, errors.TextError)
                                  if isinstance(caught.exception, kind)]), 1)
            self.assertIsInstance(caught.exception, ValueError)

    def test_point_8_and_9_judges_and_questions_answer_with_truths(self):
        for function, *arguments in CALLS:
            name = function.__name__
            if name.split("_")[0] in ("is", "accepts", "are", "has", "takes") or name == "comes_before":
                self.assertIs(type(function(*arguments)), bool, name)

    def test_point_9_evidence_of_the_library_is_accepted_by_its_judges(self):
        self.assertTrue(looking.accepts_five(SIX, 5, looking.five_against(SIX, 5)))
        for machine in oracles.random_machines(9, 30):
            self.assertTrue(counting.accepts_growth(machine, counting.growth_evidence(machine)))


if __name__ == "__main__":
    unittest.main()
