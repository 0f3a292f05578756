"""Counting (points 168 to 177)."""

import itertools
import math
import random
import unittest

from backseen.comparing import common, outside_word
from backseen.counting import (
    accepts_growth, count_at, count_before, count_up_to, growth_degree, growth_evidence, index_of, is_narrow,
    longest_word, loop_of, nth_word,
)
from backseen.errors import TooLarge
from backseen.joining import closure
from backseen.machines import first_words, last_words, least_of, takes, tree_of
from backseen.rounds import rounds
import oddities
import oracles
from oddities import EVEN, EVERY, NONE, chain, circle

SMALL = oracles.all_machines("ab", 1) + oracles.all_machines("ab", 2) + [NONE]
SMALL += oracles.all_machines("a", 1) + oracles.all_machines("a", 2) + oracles.all_machines("a", 3)
SMALL += oracles.random_machines(168, 120, "ab", 5) + oracles.random_machines(169, 40, "abc", 4)
SMALL += oracles.random_machines(170, 60, "ab", 7)
LINES = ("ab", ((0, 1), (None, 1)), (0, 1))
THREE = ("ab", ((1, 2), (3, None), (3, None), (None, None)), (1, 3))
LONG = {"a": 12, "ab": 8, "abc": 5}


def words_of(machine):
    return sorted(oracles.language(machine, LONG[machine[0]]), key=oracles.place)


def is_endless(machine):
    many = len(machine[1])
    reached = {(state, target) for state, row in enumerate(machine[1]) for target in row if target is not None}
    for _ in range(many):
        reached |= {(one, three) for one, two in reached for other, three in reached if two == other}
    return any(one == two for one, two in reached)


def has_double_loop(machine):
    """Whether some state has two different edges that both begin a word leading back to it."""
    def leads_back(start, state):
        met = {start}
        while True:
            more = {to for at in met for to in machine[1][at] if to is not None} - met
            if not more:
                return state in met
            met |= more

    return any(
        sum(1 for to in row if to is not None and leads_back(to, state)) > 1 for state, row in enumerate(machine[1])
    )


class Numbers(unittest.TestCase):
    def test_point_168_counts(self):
        for machine in SMALL:
            words = words_of(machine)
            for length in range(LONG[machine[0]] + 1):
                self.assertEqual(count_at(machine, length), sum(len(word) == length for word in words))
                self.assertEqual(count_up_to(machine, length), sum(len(word) <= length for word in words))

    def test_point_168_lengths_0_and_500(self):
        for letters in ("a", "ab", "abc", "abcd"):
            many = len(letters)
            every = (letters, ((0,) * many,), (0,))
            self.assertEqual(count_at(every, 0), 1)
            self.assertEqual(count_up_to(every, 0), 1)
            self.assertEqual(count_at(every, 500), many ** 500)
            self.assertEqual(count_up_to(every, 500), sum(many ** length for length in range(501)))
        self.assertEqual((count_at(NONE, 0), count_up_to(NONE, 500)), (0, 0))
        self.assertEqual(count_at(EVEN, 500), 2 ** 499)

    def test_point_168_machines_of_400_states(self):
        self.assertEqual(count_up_to(chain("ab", 400, tuple(range(400))), 500), 400)
        self.assertEqual(count_at(chain("ab", 400), 399), 1)
        self.assertEqual(count_at(circle("abcd", 400), 400), 4 ** 400)
        self.assertEqual(count_up_to(circle("abcd", 400), 500), 1 + 4 ** 400)
        for sample in oracles.random_samples(168, 50):
            self.assertEqual(count_up_to(tree_of("ab", sample), 500), len(sample))

    def test_point_169_and_170_numbers_of_words(self):
        for machine in SMALL:
            words = words_of(machine)
            for index, word in enumerate(words):
                self.assertEqual(nth_word(machine, index), word)
                self.assertEqual(index_of(machine, word), index)
            for word in oracles.all_words(machine[0], 3):
                ahead = sum(oracles.place(other) < oracles.place(word) for other in words)
                self.assertEqual(count_before(machine, word), ahead)
                self.assertEqual(index_of(machine, word), ahead if takes(machine, word) else None)

    def test_point_169_none_and_too_large(self):
        for machine in SMALL:
            whole = count_up_to(machine, 500)
            if is_endless(machine):
                last = nth_word(machine, whole - 1)
                self.assertGreater(len(last), 400)
                self.assertEqual(index_of(machine, last), whole - 1)
                for index in (whole, whole + 1, whole * 7, 10 ** 5000):
                    with self.assertRaises(TooLarge) as caught:
                        nth_word(machine, index)
                    self.assertEqual(caught.exception.what, "word")
            else:
                for index in (whole, whole + 1, 10 ** 5000):
                    self.assertIsNone(nth_word(machine, index))
                if whole:
                    self.assertEqual(nth_word(machine, whole - 1), longest_word(machine))

    def test_point_169_the_word_of_exactly_500_letters_and_the_one_behind_it(self):
        one = ("a", ((0,),), (0,))
        self.assertEqual(nth_word(one, 500), "a" * 500)
        self.assertEqual(index_of(one, "a" * 500), 500)
        fours = (4 ** 501 - 1) // 3
        four = ("abcd", ((0,) * 4,), (0,))
        self.assertEqual(nth_word(four, fours - 1), "d" * 500)
        self.assertEqual(nth_word(four, fours - 4 ** 500), "a" * 500)
        self.assertEqual(count_before(four, "d" * 500), fours - 1)
        for machine, index in ((one, 501), (four, fours)):
            with self.assertRaises(TooLarge):
                nth_word(machine, index)
        # There is no word of exactly 500 letters, but a longer one.
        self.assertEqual(nth_word(circle("a", 3), 166), "a" * 498)
        with self.assertRaises(TooLarge):
            nth_word(circle("a", 3), 167)
        with self.assertRaises(TooLarge):
            nth_word(circle("a", 400, (0,), 0), 2)
        self.assertEqual(nth_word(circle("a", 400), 1), "a" * 400)
        self.assertEqual(nth_word(chain("a", 400), 0), "a" * 399)
        self.assertIsNone(nth_word(chain("a", 400), 1))

    def test_point_170_words_of_500_letters(self):
        chance = random.Random(170)
        for machine in SMALL[::7]:
            whole = count_up_to(machine, 500)
            for _ in range(2):
                if whole:
                    index = chance.randrange(whole)
                    word = nth_word(machine, index)
                    self.assertTrue(takes(machine, word))
                    self.assertEqual(index_of(machine, word), index)
                word = "".join(chance.choice(machine[0]) for _ in range(500))
                number = count_before(machine, word)
                self.assertLessEqual(number, whole)
                self.assertEqual(index_of(machine, word), number if takes(machine, word) else None)
        self.assertEqual(count_before(NONE, "a"), 0)
        self.assertIsNone(index_of(NONE, ""))

    def test_point_177_rounds_and_common_parts(self):
        for sample in oracles.random_samples(177, 30, "ab", 4, 4):
            most = max(map(len, sample), default=0) + 1
            for k in (0, 1):
                machine = closure("ab", sample, k)
                self.assertEqual(len(rounds("ab", sample, k, most)), count_up_to(machine, most))
                self.assertEqual(len(rounds("ab", sample, k, most)), sum(count_at(machine, n) for n in range(most + 1)))
        pool = [machine for machine in SMALL if machine[0] == "ab"][::6]
        for one, other in itertools.product(pool, repeat=2):
            both = common(one, other)
            for length in range(5):
                union = {w for w in oracles.all_words("ab", length)
                         if len(w) == length and (takes(one, w) or takes(other, w))}
                self.assertEqual(
                    len(union) + count_at(both, length), count_at(one, length) + count_at(other, length),
                )


class Loops(unittest.TestCase):
    def test_point_171_longest_word(self):
        for machine in SMALL:
            if machine[1] and not is_endless(machine):
                words = [word for word in oracles.all_words(machine[0], len(machine[1])) if takes(machine, word)]
                self.assertEqual(longest_word(machine), words[-1])
                self.assertLess(len(words[-1]), len(machine[1]))
            else:
                self.assertIsNone(longest_word(machine))

    def test_point_171_longest_words_of_samples(self):
        for sample in oracles.random_samples(171, 200, "abc", 6, 5) + [("b", "aaa"), ("ba", "bb", "aaa", "aab")]:
            self.assertEqual(longest_word(tree_of("abc", sample)), sample[-1] if sample else None)
            self.assertEqual(longest_word(least_of(tree_of("abc", sample))), sample[-1] if sample else None)

    def test_point_171_loop_of(self):
        for machine in SMALL:
            found = loop_of(machine)
            self.assertEqual(found is not None, is_endless(machine))
            self.assertEqual(found is None and longest_word(machine) is None, not machine[1])
            self.assertFalse(found is not None and longest_word(machine) is not None)
            if found is not None:
                least = least_of(machine)
                words = oracles.all_words(machine[0], len(least[1]))[1:]
                loops = [
                    [word for word in words if oracles.state_behind(least, word, state) == state]
                    for state in range(len(least[1]))
                ]
                state = next(state for state in range(len(loops)) if loops[state])
                self.assertEqual(found, (first_words(least)[state], loops[state][0], last_words(least)[state]))
                for many in range(4):
                    self.assertTrue(takes(machine, found[0] + found[1] * many + found[2]))

    def test_point_171_edges(self):
        self.assertIsNone(longest_word(NONE))
        self.assertIsNone(loop_of(NONE))
        self.assertEqual(longest_word(("ab", ((None, None),), (0,))), "")
        self.assertEqual(longest_word(chain("ab", 400)), "a" * 399)
        self.assertEqual(longest_word(("abc", ((1, 1, 1), (None, None, None)), (1,))), "c")
        self.assertEqual(loop_of(circle("ab", 400)), ("", "a" * 400, ""))
        self.assertEqual(loop_of(circle("ab", 399, (0, 200), 1)), ("a", "a" * 399, "a" * 199))
        self.assertEqual(loop_of(THREE), None)
        self.assertEqual(longest_word(THREE), "ba")
        # The loop is read off the least machine.
        self.assertEqual(loop_of(circle("ab", 400, tuple(range(400)))), ("", "a", ""))
        self.assertEqual(loop_of(circle("ab", 6, (1, 3, 5), 1)), ("", "aa", "a"))


class Growth(unittest.TestCase):
    def test_point_174_narrow_or_not(self):
        for machine in SMALL:
            told = not has_double_loop(machine)
            self.assertIs(is_narrow(machine), told)
            self.assertIs(is_narrow(least_of(machine)), told)
            degree = growth_degree(machine)
            self.assertEqual(degree is None, not told)
            self.assertEqual(degree, growth_degree(least_of(machine)))
            if degree is not None:
                self.assertEqual(degree == 0, not is_endless(machine))

    def test_point_174_the_degree_tells_how_the_numbers_grow(self):
        for machine in SMALL:
            degree = growth_degree(machine)
            if degree:
                near, far = [
                    max(count_at(machine, length) for length in range(last - 20, last)) for last in (100, 400)
                ]
                self.assertGreater(far * 4, near * 4 ** (degree - 1))
                self.assertLess(far, near * 4 ** (degree - 1) * 4)
            elif degree is None:
                self.assertGreater(count_at(machine, 500) + count_at(machine, 499) + count_at(machine, 498), 2 ** 60)

    def test_point_174_degrees_of_some_languages(self):
        # Blocks of one letter after another: as many busy layers as blocks.
        for many in (1, 2, 3, 4):
            letters = "abcd"[:many]
            rows = tuple(tuple(to if to >= state else None for to in range(many)) for state in range(many))
            machine = (letters, rows, tuple(range(many)))
            self.assertEqual(growth_degree(machine), many)
            self.assertEqual(count_at(machine, 100), math.comb(100 + many - 1, many - 1))
        self.assertEqual((growth_degree(NONE), is_narrow(NONE)), (0, True))
        self.assertEqual((growth_degree(EVERY), is_narrow(EVERY)), (None, False))
        self.assertEqual((growth_degree(LINES), growth_degree(THREE), growth_degree(EVEN)), (2, 0, None))
        self.assertEqual(growth_degree(chain("ab", 400)), 0)
        self.assertEqual(growth_degree(circle("a", 400)), 1)
        self.assertEqual(growth_degree(circle("ab", 400)), None)
        turns = ("ab", tuple((state, state + 1 if state < 399 else None) for state in range(400)), (399,))
        self.assertEqual(growth_degree(turns), 400)

    def test_point_177_languages_in_one_another(self):
        pool = [machine for machine in SMALL if machine[0] == "ab"][::5]
        for one, other in itertools.product(pool, repeat=2):
            if outside_word(one, other) is None and growth_degree(other) is not None:
                self.assertIsNotNone(growth_degree(one))
                self.assertLessEqual(growth_degree(one), growth_degree(other))

    def test_point_177_degrees_of_closures_never_become_greater(self):
        for sample in oracles.random_samples(178, 60, "ab", 5, 5):
            degrees = [growth_degree(closure("ab", sample, k)) for k in range(8)]
            told = [float("inf") if degree is None else degree for degree in degrees]
            self.assertEqual(told, sorted(told, reverse=True))
            longest = max(map(len, sample), default=0)
            self.assertEqual(set(degrees[longest:]), {0})

    def test_point_175_evidence(self):
        for machine in SMALL + [chain("ab", 400), circle("ab", 400), circle("abcd", 399, (7,), 1)]:
            value = growth_evidence(machine)
            self.assertIs(accepts_growth(machine, value), True)
            self.assertEqual(value[0], "narrow" if is_narrow(machine) else "wide")
            words = value[1:] if value[0] == "wide" else value[2]
            self.assertLessEqual(max(map(len, words), default=0), 1000)
            if value[0] == "narrow" and machine[1]:
                self.assertEqual(len(value[2]), 2 * growth_degree(machine) + 1)

    def test_point_172_to_174_never_both(self):
        for machine in [machine for machine in SMALL if 0 < len(machine[1]) < 3][::3]:
            words = oracles.all_words(machine[0], 2)
            found = {"narrow": set(), "wide": set()}
            for layers in itertools.product((-1, 5), repeat=len(machine[1])):
                for many in (1, 3, 5):
                    for row in itertools.product(words[:3], repeat=many):
                        if accepts_growth(machine, ("narrow", layers, row)):
                            found["narrow"].add(many)
            for four in itertools.product(words, words, words, words):
                if accepts_growth(machine, ("wide",) + four):
                    found["wide"].add(4)
            self.assertFalse(found["narrow"] and found["wide"])
            if found["narrow"]:
                self.assertEqual(found["narrow"], {2 * growth_degree(machine) + 1})
            if found["wide"]:
                self.assertFalse(is_narrow(machine))

    def test_point_175_without_states(self):
        self.assertEqual(growth_evidence(NONE), ("narrow", (), ()))
        self.assertIs(accepts_growth(NONE, ("narrow", (), ())), True)
        for value in (
            ("narrow", (), ("",)), ("narrow", (0,), ("",)), ("narrow", [], ()), ("narrow", (), []), ("narrow", ()),
            ("wide", "", "a", "b", ""), ("wide", "a", "a", "b", "a"), ("wide", (), ()), ("wide", "", "", "", ""),
            ("narrow", (), (), ()), ("narrow", "", ()),
        ):
            self.assertIs(accepts_growth(NONE, value), False)

    def test_point_173_and_175_rows_by_whomever(self):
        row = ("a", "aa", "b", "b", "")
        for layers, told in (
            ((1, 0), True), ((-3, -77), True), ((10 ** 40, -(10 ** 40)), True), ((0, 1), False), ((0, 0), False),
            ((1,), False), ((1, 0, 0), False), ([1, 0], False), ((True, 0), False), ((1, False), False),
            ((1.0, 0), False), (("1", "0"), False), ((1, None), False),
        ):
            self.assertIs(accepts_growth(LINES, ("narrow", layers, row)), told, layers)
        for changed, told in (
            (("", "a", "b", "b", "b"), True), (("aaa", "a" * 7, "ab", "bbb", "bb"), True),
            (("", "", "b", "b", ""), False), (("", "a", "b", "", ""), False), (("", "ab", "b", "b", ""), False),
            (("", "a", "", "a", ""), False), (("", "a", "a", "a", "b"), False), (("b", "b", "", "b", ""), False),
            (("", "a", "b", "b", "a"), False), (("", "a", "b"), False), (("b", "b", ""), False), (("",), False),
            (("", "a", "b", "b"), False), (("", "a", "b", "b", "", ""), False), (("", "c", "b", "b", ""), False),
            (("", "a", "ba", "b", ""), False), (list(row), False), (("", "a", "b", "b", None), False), ((), False),
            (("", "a", "b", "b", "", "b"), False), (("", "a", "b", "b", "b", "b", "b", "b"), False), (("", "a"), False),
            (("ba", "a", "b", "b", ""), False), (("", "a", "b", "b", "", "b", ""), False),
        ):
            self.assertIs(accepts_growth(LINES, ("narrow", (1, 0), changed)), told, changed)

    def test_point_172_layers_with_more_busy_ones_than_a_row_can_have(self):
        # Behind a or b stands any number of letters c: one layer for both states will do, two will not.
        machine = ("abc", ((1, 2, None), (None, 3, 1), (3, None, 2), (None, None, None)), (1, 2, 3))
        row = ("a", "c", "")
        self.assertIs(accepts_growth(machine, ("narrow", (2, 1, 1, 0), row)), True)
        self.assertIs(accepts_growth(machine, ("narrow", (3, 2, 1, 0), row)), False)
        self.assertIs(accepts_growth(machine, ("narrow", (3, 2, 1, 0), row[:2] + ("b", "c", ""))), False)
        self.assertIs(accepts_growth(machine, ("narrow", (1, 1, 1, 0), row)), False)
        # From a state at most one edge may lead to a state with the same layer, be the two states equal or not.
        self.assertIs(accepts_growth(machine, ("narrow", (2, 1, 1, 1), row)), False)
        double = ("ab", ((1, 1), (None, None)), (1,))
        self.assertIs(accepts_growth(double, ("narrow", (0, 0), ("", "", "a"))), False)
        self.assertIs(accepts_growth(double, ("narrow", (1, 0), ("b",))), True)
        # A layer is busy if an edge stays in it, although no loop does; then no row of loops is there.
        single = ("ab", ((1, None), (None, None)), (1,))
        self.assertIs(accepts_growth(single, ("narrow", (0, 0), ("a",))), False)
        self.assertIs(accepts_growth(single, ("narrow", (9, -9), ("a",))), True)
        self.assertIs(accepts_growth(single, ("narrow", (9, -9), ("",))), False)

    def test_point_173_and_175_double_loops_by_whomever(self):
        for four, told in (
            (("", "a", "a", ""), False), (("", "bb", "aa", ""), True), (("", "b", "aa", ""), False),
            (("a", "bb", "aa", "a"), True), (("a", "bb", "aa", ""), False), (("", "ab", "ba", ""), False),
            (("", "aab", "baa", "bbb"), True), (("", "aab", "bab", ""), False), (("", "", "", ""), False),
            (("", "bb", "ac", ""), False), (("", "bb", "aa", None), False), (("", "bb", "aa"), False),
            (("", "bb", "aa", "", ""), False), (("", ["b", "b"], "aa", ""), False),
        ):
            self.assertIs(accepts_growth(EVEN, ("wide",) + four), told, four)
            self.assertIs(accepts_growth(EVEN, ("narrow",) + four), False)
        self.assertIs(accepts_growth(LINES, ("wide", "", "aa", "ab", "")), False)
        self.assertIs(accepts_growth(EVEN, ["wide", "", "bb", "aa", ""]), False)

    def test_point_175_words_of_1000_letters_and_1001(self):
        for many in (1000, 1001):
            for value in (
                ("wide", "b" * many, "aa", "bb", ""), ("wide", "", "aa", "bb", "b" * many),
                ("wide", "", "a" + "b" * (many - 2) + "a", "b" * many, ""),
            ):
                self.assertIs(accepts_growth(EVEN, value), many == 1000)
            for row in (
                ("a" * many, "a", "b", "b", ""), ("a", "a" * many, "b", "b", ""), ("a", "a", "b" * many, "b", ""),
                ("a", "a", "b", "b" * many, ""), ("a", "a", "b", "b", "b" * many),
            ):
                self.assertIs(accepts_growth(LINES, ("narrow", (1, 0), row)), many == 1000)

    def test_point_174_layers_can_be_made_for_each_narrow_machine(self):
        for machine in SMALL:
            value = growth_evidence(machine)
            if value[0] != "narrow" or not machine[1]:
                continue
            _, layers, row = value
            order = sorted(set(layers))
            for changed in (
                tuple(layer - 10 ** 9 for layer in layers), tuple(3 * layer for layer in layers),
                tuple(order.index(layer) for layer in layers),
            ):
                self.assertIs(accepts_growth(machine, ("narrow", changed, row)), True)
            for at in range(len(row)):
                for word in ("", "a", "b", row[at] + "a", row[at][1:]):
                    if word != row[at]:
                        changed = row[:at] + (word,) + row[at + 1:]
                        told = self.is_row_plainly(machine, layers, changed)
                        self.assertIs(accepts_growth(machine, ("narrow", layers, changed)), told)

    def is_row_plainly(self, machine, layers, row):
        """Whether words over letters, as many as there have to be, are a row of loops, told plainly."""
        if any(set(word) - set(machine[0]) for word in row):
            return False
        state = oracles.state_behind(machine, row[0])
        states = []
        for loop, way in zip(row[1::2], row[2::2]):
            if state is None or not loop or oracles.state_behind(machine, loop, state) != state:
                return False
            states.append(state)
            state = oracles.state_behind(machine, way, state)
        told = [layers[state] for state in states]
        return state in machine[2] and told == sorted(set(told), reverse=True)

    def test_point_8_and_175_values_of_any_kind(self):
        for machine in (EVEN, LINES, THREE):
            oddities.check_judge(self, lambda value: accepts_growth(machine, value), [("narrow", (), ())])
        for odd in oddities.oddities():
            # Any integer less than 1 is a layer here.
            told = type(odd) is int and odd < 1
            self.assertIs(accepts_growth(LINES, ("narrow", (1, odd), ("a", "a", "b", "b", ""))), told)
            self.assertIs(accepts_growth(LINES, ("narrow", (1, 0), ("a", odd, "b", "b", ""))), False)
            for at in range(4):
                four = ["", "bb", "aa", ""]
                four[at] = odd
                self.assertIs(accepts_growth(EVEN, ("wide",) + tuple(four)), False)


class Wrong(unittest.TestCase):
    def test_point_176_wrong_arguments(self):
        wrong = {
            "machine": oddities.MACHINES + [chain("a", 401)], "length": [None, "1", -1, 501, (1,), 1.0, 10 ** 20],
            "word": oddities.ASKED_WORDS,
        }
        for function in (longest_word, loop_of, is_narrow, growth_degree, growth_evidence):
            oddities.check_wrong(self, function, ("machine",), (EVEN,), wrong)
        for function in (count_at, count_up_to):
            oddities.check_wrong(self, function, ("machine", "length"), (EVEN, 3), wrong)
        for function in (count_before, index_of):
            oddities.check_wrong(self, function, ("machine", "word"), (EVEN, "a"), wrong)
        oddities.check_wrong(self, lambda machine: accepts_growth(machine, None), ("machine",), (EVEN,), wrong)

    def test_point_176_wrong_indexes(self):
        for index in (
            None, -1, -(10 ** 30), True, False, 1.0, "1", (1,), [1], oddities.OddInteger(1), oddities.Hostile(),
        ):
            self.assertTrue(oddities.is_refused(nth_word, (EVEN, index), "index"))
            self.assertTrue(oddities.is_refused(nth_word, (None, index), "machine"))
            self.assertTrue(oddities.is_refused(nth_word, (NONE, index), "index"))
        for machine in oddities.MACHINES:
            self.assertTrue(oddities.is_refused(nth_word, (machine, 10 ** 3000), "machine"))

    def test_point_176_equal_languages(self):
        for machine in SMALL:
            least = least_of(machine)
            for function in (longest_word, loop_of, is_narrow, growth_degree):
                self.assertEqual(function(machine), function(least))
            self.assertEqual(count_at(machine, 77), count_at(least, 77))
            self.assertEqual(count_before(machine, "a" * 77), count_before(least, "a" * 77))


if __name__ == "__main__":
    unittest.main()
