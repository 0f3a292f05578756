"""Machines (points 20 to 28, 32, 33 and 35)."""

import itertools
import unittest

from backseen.errors import TooLarge
from backseen.machines import (
    first_words, is_least, is_machine, last_words, least_of, machine_from, state_behind, takes, tree_of,
)
from backseen.words import beginnings, words_up_to
import oddities
import oracles
from oddities import EVEN, EVERY, NONE, chain, circle

SMALL = oracles.all_machines("ab", 1) + oracles.all_machines("ab", 2) + [NONE]
SMALL += oracles.all_machines("a", 1) + oracles.all_machines("a", 2) + oracles.all_machines("a", 3)
SMALL += oracles.random_machines(20, 150, "ab", 5) + oracles.random_machines(21, 50, "abc", 4)


def rests(machine, most):
    """The rest of each state, as far as its words have at most so many letters."""
    words = oracles.all_words(machine[0], most)
    return [
        frozenset(word for word in words if oracles.state_behind(machine, word, state) in machine[2])
        for state in range(len(machine[1]))
    ]


class Forms(unittest.TestCase):
    def test_point_20_and_21_machines(self):
        for machine in SMALL:
            self.assertIs(is_machine(machine), True)
        self.assertIs(is_machine(("ab", (), ())), True)
        self.assertIs(is_machine(("abcd", ((None,) * 4,), (0,))), True)

    def test_point_20_and_21_other_values_are_none(self):
        for value in oddities.oddities() + oddities.MACHINES:
            self.assertIs(is_machine(value), False)

    def test_point_20_and_21_all_tables_of_two_states_over_one_letter(self):
        targets = (None, 0, 1, 2, -1, True, False, "0", 1.0)
        for one, two in itertools.product(targets, repeat=2):
            for ends in ((), (0,), (1,), (0, 1), (1, 0), (0, 0), (2,), (True,), (False,), [0]):
                plain = all(target is None or type(target) is int for target in (one, two))
                right = plain and one == 1 and two in (None, 0, 1) and (
                    ends in ((1,), (0, 1)) or (ends == (0,) and type(ends) is tuple and two == 0)
                ) and all(type(end) is int for end in ends)
                self.assertIs(is_machine(("a", ((one,), (two,)), ends)), right, (one, two, ends))

    def test_point_21_states_are_numbered_by_their_first_words(self):
        for machine in oracles.random_machines(22, 60, "ab", 4):
            letters, rows, ends = machine
            for order in itertools.permutations(range(len(rows))):
                if order[:1] != (0,):
                    continue
                renamed = (
                    letters,
                    tuple(tuple(None if to is None else order.index(to) for to in rows[at]) for at in order),
                    tuple(sorted(order.index(end) for end in ends)),
                )
                self.assertIs(is_machine(renamed), renamed == machine)

    def test_point_21_each_state_is_come_to_and_leads_to_an_end(self):
        self.assertIs(is_machine(("ab", ((1, None), (None, None), (None, 0)), (1, 2))), False)
        self.assertIs(is_machine(("ab", ((1, 2), (None, None), (None, 2)), (1,))), False)
        self.assertIs(is_machine(("ab", ((1, 2), (None, None), (None, 2)), (1, 2))), True)
        self.assertIs(is_machine(("ab", ((0, 0),), ())), False)

    def test_point_21_400_states_and_401(self):
        self.assertIs(is_machine(chain("ab", 400)), True)
        self.assertIs(is_machine(chain("ab", 401)), False)
        self.assertIs(is_machine(circle("abcd", 400)), True)
        self.assertIs(is_machine(circle("abcd", 401)), False)
        self.assertTrue(oddities.is_refused(takes, (chain("ab", 401), "a"), "machine"))

    def test_point_10_and_8_true_and_lists_in_machines(self):
        for value in (
            ("ab", ((False, 0),), (0,)), ("ab", ((0, 0),), (False,)), ("ab", ([0, 0],), (0,)), ("ab", [], ()),
            ("ab", ((1, True), (0, 0)), (0,)), ["ab", (), ()], ("ab", (), []), (["a", "b"], (), ()), ("ab", ()),
        ):
            self.assertIs(is_machine(value), False)


class Taking(unittest.TestCase):
    def test_point_22_state_behind_and_takes(self):
        for machine in SMALL:
            for word in oracles.all_words(machine[0], 4):
                self.assertEqual(state_behind(machine, word), oracles.state_behind(machine, word))
                self.assertIs(takes(machine, word), oracles.takes(machine, word))

    def test_point_22_without_states_nothing_is_taken(self):
        for word in ("", "a", "ab" * 400):
            self.assertIsNone(state_behind(NONE, word))
            self.assertIs(takes(NONE, word), False)

    def test_point_22_words_of_any_number_of_letters(self):
        self.assertIs(takes(EVEN, "a" * 100000 + "b"), True)
        self.assertIs(takes(EVEN, "a" * 100001 + "b"), False)
        self.assertEqual(state_behind(circle("ab", 400), "ab" * 1000), 0)
        self.assertEqual(state_behind(circle("ab", 400), "ab" * 1000 + "b"), 1)
        self.assertTrue(oddities.is_refused(takes, (EVEN, "a" * 501 + "c"), "word"))


class FirstAndLastWords(unittest.TestCase):
    def test_point_23_first_words(self):
        for machine in SMALL:
            many = len(machine[1])
            words = oracles.all_words(machine[0], many)
            told = tuple(
                next(word for word in words if oracles.state_behind(machine, word) == state) for state in range(many)
            )
            self.assertEqual(first_words(machine), told)
            self.assertEqual(told, oracles.in_order(told))
            for word in told:
                self.assertTrue(word == "" or word[:-1] in told)
                self.assertLess(len(word), many)

    def test_point_23_last_words(self):
        for machine in SMALL:
            many = len(machine[1])
            words = oracles.all_words(machine[0], many)
            told = tuple(
                next(word for word in words if oracles.state_behind(machine, word, state) in machine[2])
                for state in range(many)
            )
            self.assertEqual(last_words(machine), told)
            for state, word in enumerate(told):
                self.assertEqual(word == "", state in machine[2])
                self.assertTrue(word == "" or word[1:] in told)
                self.assertLess(len(word), many)
                self.assertTrue(takes(machine, first_words(machine)[state] + word))
            if many:
                self.assertEqual(told[0], next(word for word in words if takes(machine, word)))

    def test_point_23_400_states(self):
        machine = chain("ab", 400)
        self.assertEqual(first_words(machine), tuple("a" * many for many in range(400)))
        self.assertEqual(last_words(machine), tuple("a" * (399 - many) for many in range(400)))
        self.assertEqual(first_words(NONE), ())
        self.assertEqual(last_words(NONE), ())


class Least(unittest.TestCase):
    def test_point_24_to_26_least_of_small_machines(self):
        for machine in SMALL:
            many = len(machine[1])
            different = set(rests(machine, max(many, 1)))
            least = least_of(machine)
            self.assertTrue(is_machine(least))
            self.assertEqual(len(least[1]), len(different))
            self.assertIs(is_least(machine), len(different) == many)
            self.assertIs(is_least(least), True)
            self.assertEqual(least_of(least), least)
            self.assertEqual(oracles.language(least, 2 * many), oracles.language(machine, 2 * many))
            self.assertEqual(least[0], machine[0])

    def test_point_25_one_least_machine_for_each_language(self):
        by_language = {}
        for machine in SMALL:
            key = (machine[0], frozenset(oracles.language(machine, 10 if len(machine[0]) < 3 else 8)))
            self.assertEqual(by_language.setdefault(key, least_of(machine)), least_of(machine))
        self.assertEqual(len(set(by_language.values())), len(by_language))

    def test_point_25_words_lead_to_one_state_if_they_have_the_same_rest(self):
        for machine in SMALL[::5]:
            least = least_of(machine)
            told = rests(machine, 6)
            for one, other in itertools.product(oracles.all_words(machine[0], 3), repeat=2):
                states = oracles.state_behind(machine, one), oracles.state_behind(machine, other)
                if None not in states:
                    same = told[states[0]] == told[states[1]]
                    self.assertEqual(state_behind(least, one) == state_behind(least, other), same)

    def test_point_24_the_machine_without_states_is_least(self):
        self.assertIs(is_least(NONE), True)
        self.assertEqual(least_of(NONE), NONE)

    def test_point_26_large_machines(self):
        self.assertEqual(least_of(circle("ab", 400, tuple(range(400)))), EVERY)
        self.assertEqual(least_of(circle("ab", 400, tuple(range(0, 400, 2)))), circle("ab", 2))
        self.assertEqual(least_of(circle("ab", 399, (0,))), circle("ab", 399, (0,)))
        self.assertEqual(least_of(chain("abcd", 400)), chain("abcd", 400))
        self.assertEqual(least_of(circle("a", 300, (0, 100, 200))), circle("a", 100))
        self.assertIs(is_least(circle("a", 300, (0, 100, 200))), False)
        self.assertIs(is_least(circle("a", 300, (0, 100, 201))), True)

    def test_point_35_example(self):
        self.assertEqual(first_words(EVEN), ("", "a"))
        self.assertEqual(last_words(EVEN), ("", "a"))
        self.assertIs(is_least(EVEN), True)
        for word in oracles.all_words("ab", 6):
            self.assertIs(takes(EVEN, word), word.count("a") % 2 == 0)


class Tables(unittest.TestCase):
    def test_point_27_all_tables_of_two_rows(self):
        targets = (None, 0, 1)
        for flat in itertools.product(targets, repeat=4):
            rows = (flat[:2], flat[2:])
            for ends in ((), (0,), (1,), (0, 1)):
                for start in (None, 0, 1):
                    least = machine_from("ab", rows, ends, start)
                    self.assertTrue(is_machine(least) and is_least(least))
                    plain = ("ab", (), ()) if start is None else oracles.machine_of("ab", rows, ends, start)
                    self.assertEqual(least, least_of(plain))

    def test_point_27_rows_that_do_not_matter(self):
        # Row 0 is not come to, row 3 leads nowhere, rows 1 and 4 are doubles.
        rows = ((1, 1), (2, 3), (3, 1), (3, None), (2, 3))
        self.assertEqual(machine_from("ab", rows, (2,), 1), ("ab", ((1, None), (None, 0)), (1,)))
        self.assertEqual(machine_from("ab", rows, (2,), 4), ("ab", ((1, None), (None, 0)), (1,)))
        self.assertEqual(machine_from("ab", rows, (2,), 3), NONE)
        self.assertEqual(machine_from("ab", rows, (2,), None), NONE)
        self.assertEqual(machine_from("ab", rows, (), 0), NONE)
        self.assertEqual(machine_from("ab", (), (), None), NONE)

    def test_point_27_400_rows_and_401(self):
        rows = tuple((at, at) for at in range(399, -1, -1))
        self.assertEqual(machine_from("ab", rows, (0,), 399), ("ab", ((1, 1), (0, 0)), (1,)))
        self.assertTrue(oddities.is_refused(machine_from, ("ab", ((0, 0),) * 401, (0,), 0), "rows"))
        self.assertEqual(machine_from("ab", ((0, 0),) * 400, (0, 399), 0), EVERY)
        self.assertEqual(machine_from("ab", ((399, 399),) * 400, (399,), 7), ("ab", ((1, 1), (1, 1)), (1,)))

    def test_point_27_of_a_machine_it_is_least_of(self):
        for machine in SMALL:
            start = 0 if machine[1] else None
            self.assertEqual(machine_from(machine[0], machine[1], machine[2], start), least_of(machine))


class Trees(unittest.TestCase):
    def test_point_28_trees(self):
        for sample in oracles.random_samples(28, 150, "abc"):
            tree = tree_of("abc", sample)
            self.assertTrue(is_machine(tree))
            words = beginnings("abc", sample)
            self.assertEqual(first_words(tree), words)
            self.assertEqual(len(tree[1]), len(words))
            self.assertEqual(tuple(words[end] for end in tree[2]), sample)
            self.assertEqual(oracles.language(tree, 6), set(sample))
            for word in oracles.all_words("abc", 3):
                told = words.index(word) if word in words else None
                self.assertEqual(state_behind(tree, word), told)

    def test_point_28_the_sample_without_words(self):
        self.assertEqual(tree_of("ab", ()), NONE)
        self.assertEqual(tree_of("ab", ("",)), ("ab", ((None, None),), (0,)))

    def test_point_28_400_beginnings_and_401(self):
        self.assertEqual(tree_of("ab", ("a" * 399,)), chain("ab", 400))
        for sample in (("a" * 400,), ("b", "a" * 399), ("a" * 200, "b" * 200), words_up_to("ab", 8)[311:]):
            with self.assertRaises(TooLarge) as caught:
                tree_of("ab", sample)
            self.assertEqual(caught.exception.what, "states")
        self.assertEqual(len(tree_of("ab", ("b" * 199, "a" * 200))[1]), 400)


class Wrong(unittest.TestCase):
    def test_point_33_wrong_arguments(self):
        wrong = {"machine": oddities.MACHINES, "word": oddities.WORDS}
        for function in (first_words, last_words, is_least, least_of):
            oddities.check_wrong(self, function, ("machine",), (EVEN,), wrong)
        for function in (state_behind, takes):
            oddities.check_wrong(self, function, ("machine", "word"), (EVEN, "a"), wrong)

    def test_point_33_wrong_tables_and_samples(self):
        wrong = {
            "letters": oddities.LETTERS, "sample": oddities.SAMPLES,
            "rows": [
                None, 0, [(0, 0)], ([0, 0],), ((0,),), ((0, 0, 0),), ((0, 1),), ((0, -1),), ((0, False),), ("ab",),
                ((0, 0),) * 401, ((0, 0), (0, None), (0, 3)),
            ],
            "ends": [None, 0, [0], (1,), (-1,), (0, 0), (False,), ("a",), (None,)],
            "start": ["", "0", (0,), 1, -1, True, False],
        }
        names = ("letters", "rows", "ends", "start")
        oddities.check_wrong(self, machine_from, names, ("ab", ((0, None),), (0,), 0), wrong)
        oddities.check_wrong(self, tree_of, ("letters", "sample"), ("ab", ("a",)), wrong)
        self.assertTrue(oddities.is_refused(machine_from, ("ab", (), (), 0), "start"))
        self.assertTrue(oddities.is_refused(machine_from, ("ab", (), (0,), None), "ends"))
        self.assertTrue(oddities.is_refused(machine_from, ("ab", ((0, 0), (1, 1)), (1, 0), None), "ends"))

    def test_point_33_ahead_of_too_large(self):
        self.assertTrue(oddities.is_refused(tree_of, ("ba", ("a" * 400,)), "letters"))
        self.assertTrue(oddities.is_refused(tree_of, ("b", ("a" * 400,)), "sample"))


if __name__ == "__main__":
    unittest.main()
