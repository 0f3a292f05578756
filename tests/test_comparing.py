"""Comparing machines (points 29 to 34)."""

import itertools
import random
import unittest

from backseen.comparing import accepts_inside, common, inside_paper, outside_word, telling_word
from backseen.errors import TooLarge
from backseen.machines import is_least, is_machine, least_of, takes
import oddities
import oracles
from oddities import EVEN, EVERY, NONE, chain, circle

BOUNDS = {"a": 30, "ab": 8, "abc": 6}
POOLS = {
    "a": oracles.all_machines("a", 1) + oracles.all_machines("a", 2) + oracles.random_machines(1, 20, "a", 6),
    "ab": oracles.all_machines("ab", 1) + oracles.random_machines(2, 60, "ab", 4) + [NONE],
    "abc": oracles.random_machines(3, 25, "abc", 3),
}


def some_pairs(seed, how_many):
    chance = random.Random(seed)
    for letters in POOLS:
        for _ in range(how_many):
            yield chance.choice(POOLS[letters]), chance.choice(POOLS[letters]), BOUNDS[letters]


def what_of(case, function, *arguments):
    with case.assertRaises(TooLarge) as caught:
        function(*arguments)
    return caught.exception.what


def unrolled(machine, other):
    """A machine of the language of `machine` with a state for each pair of states of both, where both have some."""
    pairs = list(itertools.product(range(len(machine[1])), range(len(other[1]))))
    rows = [
        tuple(
            None if to is None else pairs.index((to, 0 if other_to is None else other_to))
            for to, other_to in zip(machine[1][one], other[1][two])
        )
        for one, two in pairs
    ]
    ends = [at for at, (one, _) in enumerate(pairs) if one in machine[2]]
    return oracles.machine_of(machine[0], rows, ends)


class FirstWords(unittest.TestCase):
    def test_point_29_telling_word(self):
        for machine, other, bound in some_pairs(29, 250):
            apart = oracles.language(machine, bound) ^ oracles.language(other, bound)
            word = telling_word(machine, other)
            self.assertEqual(word, telling_word(other, machine))
            self.assertEqual(word is None, least_of(machine) == least_of(other))
            if apart:
                self.assertEqual(word, min(apart, key=oracles.place))
            if word is not None:
                self.assertLess(len(word), len(machine[1]) + len(other[1]))
                self.assertNotEqual(takes(machine, word), takes(other, word))

    def test_point_30_outside_word(self):
        for machine, other, bound in some_pairs(30, 250):
            outside = oracles.language(machine, bound) - oracles.language(other, bound)
            word, back = outside_word(machine, other), outside_word(other, machine)
            if outside:
                self.assertEqual(word, min(outside, key=oracles.place))
            if word is not None:
                self.assertLess(len(word), len(machine[1]) * (len(other[1]) + 1))
                self.assertTrue(takes(machine, word) and not takes(other, word))
            told = [found for found in (word, back) if found is not None]
            self.assertEqual(telling_word(machine, other), min(told, key=oracles.place, default=None))
            try:
                self.assertEqual(word is None, common(machine, other) == least_of(machine))
            except TooLarge:
                pass

    def test_point_29_the_longest_telling_words(self):
        one, other = chain("ab", 400), chain("ab", 400, (398, 399))
        self.assertEqual(telling_word(one, other), "a" * 398)
        one, other = circle("ab", 399), circle("ab", 400)
        self.assertEqual(telling_word(one, other), "a" * 399)
        # Circles with all states ends but the last: they are first told apart by the last state of the smaller one.
        one, other = circle("ab", 399, tuple(range(398))), circle("ab", 400, tuple(range(399)))
        self.assertEqual(telling_word(one, other), "a" * 398)
        self.assertIsNone(telling_word(circle("ab", 400, tuple(range(400))), circle("ab", 399, tuple(range(399)))))

    def test_point_30_words_far_longer_than_the_machines_have_states(self):
        one, other = circle("a", 19, (18,)), circle("a", 20, tuple(range(19)))
        self.assertEqual(outside_word(one, other), "a" * 379)
        self.assertEqual(telling_word(one, other), "")
        one, other = circle("ab", 399, (398,)), circle("ab", 400, tuple(range(399)))
        word = outside_word(one, other)
        self.assertEqual(word, "a" * (399 * 400 - 1))
        self.assertIs(accepts_inside(one, other, ("outside", word)), True)
        self.assertIs(accepts_inside(one, other, ("outside", word[1:])), False)
        self.assertEqual(inside_paper(one, other), ("outside", word))

    def test_point_29_and_30_without_states(self):
        self.assertIsNone(telling_word(NONE, NONE))
        self.assertEqual(telling_word(NONE, EVEN), "")
        self.assertEqual(telling_word(("ab", ((1, None), (None, None)), (1,)), NONE), "a")
        self.assertIsNone(outside_word(NONE, EVEN))
        self.assertEqual(outside_word(EVEN, NONE), "")
        self.assertEqual(common(EVEN, NONE), NONE)
        self.assertEqual(common(NONE, EVEN), NONE)

    def test_point_30_languages_that_lie_in_one_another_by_hundreds_of_states(self):
        self.assertIsNone(outside_word(circle("ab", 400), circle("ab", 200)))
        self.assertEqual(outside_word(circle("ab", 200), circle("ab", 400)), "a" * 200)


class Common(unittest.TestCase):
    def test_point_31_common(self):
        for machine, other, bound in some_pairs(31, 250):
            found = common(machine, other)
            self.assertTrue(is_machine(found) and is_least(found))
            self.assertEqual(
                oracles.language(found, bound), oracles.language(machine, bound) & oracles.language(other, bound)
            )
            self.assertEqual(found, common(other, machine))
            self.assertEqual(common(machine, machine), least_of(machine))
            self.assertEqual(common(found, machine), found)

    def test_point_31_exactly_4000_pairs_and_more(self):
        every_of_32 = circle("a", 32, (1,))
        # 4000 pairs, but as many states: the second refusal.
        self.assertEqual(what_of(self, common, circle("a", 125), circle("a", 32)), "states")
        # 4001 pairs by the tail, and 4032 pairs: the first refusal.
        self.assertEqual(what_of(self, common, circle("a", 125, (0, 1), 1), circle("a", 32)), "pairs")
        self.assertEqual(what_of(self, common, circle("a", 63), circle("a", 64)), "pairs")
        self.assertEqual(what_of(self, common, circle("a", 400), circle("a", 399)), "pairs")
        self.assertEqual(what_of(self, common, every_of_32, circle("a", 125)), "states")

    def test_point_31_4000_pairs_with_few_states_in_the_common_part(self):
        # The one takes words of an odd number of letters, the other of an even one: all pairs are gone through in vain.
        odd, even = circle("a", 250, (1,)), circle("a", 32, (0,))
        self.assertEqual(common(odd, even), ("a", (), ()))
        odd, even = circle("a", 252, (1,)), circle("a", 64, (0,))
        self.assertEqual(what_of(self, common, odd, even), "pairs")

    def test_point_31_pairs_are_counted_in_the_least_machines(self):
        doubled = circle("a", 250, (0, 125))
        self.assertEqual(what_of(self, common, doubled, circle("a", 32)), "states")
        self.assertEqual(common(circle("a", 400, tuple(range(400))), circle("a", 399)), circle("a", 399))

    def test_point_31_exactly_400_states_and_more(self):
        self.assertEqual(common(circle("a", 16), circle("a", 25)), circle("a", 400))
        one = circle("a", 16, (0, 2), 1)
        self.assertEqual(what_of(self, common, one, circle("a", 25)), "states")
        self.assertEqual(len(common(circle("a", 21), circle("a", 19))[1]), 399)

    def test_point_32_letters_and_equal_languages(self):
        more = {"a": circle("a", 2), "ab": EVEN, "abc": circle("abc", 2)}
        for machine, other, _ in some_pairs(32, 60):
            same = unrolled(machine, more[machine[0]])
            self.assertEqual(least_of(same), least_of(machine))
            for function in (telling_word, outside_word, common):
                self.assertEqual(function(same, other), function(machine, other))
                self.assertEqual(function(other, same), function(other, machine))
        self.assertEqual(common(("ab", ((0, None),), (0,)), EVERY)[0], "ab")


class Inside(unittest.TestCase):
    def test_point_34_papers(self):
        for machine, other, _ in some_pairs(34, 250):
            paper = inside_paper(machine, other)
            word = outside_word(machine, other)
            self.assertIs(accepts_inside(machine, other, paper), True)
            if word is None:
                self.assertEqual(paper[0], "inside")
            else:
                self.assertEqual(paper, ("outside", word))

    def test_point_34_never_both(self):
        for machine, other, bound in some_pairs(35, 40):
            inside = outside_word(machine, other) is None
            every = tuple(itertools.product(range(len(machine[1])), range(len(other[1]))))
            if not inside:
                for many in range(min(len(every), 4) + 1):
                    for pairs in itertools.combinations(every, many):
                        self.assertIs(accepts_inside(machine, other, ("inside", pairs)), False)
            for word in oracles.all_words(machine[0], min(bound, 4)):
                told = takes(machine, word) and not takes(other, word)
                self.assertIs(accepts_inside(machine, other, ("outside", word)), told)

    def test_point_34_pairs_by_whomever(self):
        self.assertIs(accepts_inside(EVEN, EVERY, ("inside", ((0, 0), (1, 0)))), True)
        self.assertIs(accepts_inside(EVEN, EVERY, ("inside", ((1, 0), (0, 0), (1, 0), (0, 0)))), True)
        other = ("ab", ((1, 1), (2, 2), (1, 1)), (0, 1, 2))
        pairs = ((0, 0), (1, 1), (0, 1), (0, 2), (1, 2))
        self.assertIs(accepts_inside(EVEN, other, ("inside", pairs)), True)
        self.assertIs(accepts_inside(EVEN, other, ("inside", pairs + ((1, 0),))), True)
        for at in range(len(pairs)):
            self.assertIs(accepts_inside(EVEN, other, ("inside", pairs[:at] + pairs[at + 1:])), False)
        for extra in (
            (2, 0), (0, 3), (-1, 0), (0, -1), (True, 0), (0, False), (0,), (0, 0, 0), [0, 0], None, (0, None),
        ):
            self.assertIs(accepts_inside(EVEN, other, ("inside", pairs + (extra,))), False)
        self.assertIs(accepts_inside(EVEN, other, ("inside", list(pairs))), False)
        self.assertIs(accepts_inside(EVEN, other, ["inside", pairs]), False)
        self.assertIs(accepts_inside(EVEN, other, ("inside", pairs, ())), False)
        self.assertIs(accepts_inside(EVEN, other, ("outside", pairs)), False)

    def test_point_34_the_first_item_is_one_of_two_words(self):
        pairs = ((0, 0), (1, 0))
        for name in ("inside", "outside", "out", "", "Inside", "must", None, 0, "a", ("inside",), ["inside"]):
            self.assertIs(accepts_inside(EVEN, EVERY, (name, pairs)), name == "inside")
            self.assertIs(accepts_inside(EVERY, EVEN, (name, "a")), name == "outside")

    def test_point_34_an_end_beside_no_end(self):
        other = ("ab", ((1, 1), (0, 0)), (0,))
        self.assertIs(accepts_inside(circle("ab", 2), other, ("inside", ((0, 0), (1, 1)))), True)
        self.assertIs(accepts_inside(circle("ab", 2, (0, 1)), other, ("inside", ((0, 0), (1, 1)))), False)

    def test_point_34_without_states(self):
        self.assertIs(accepts_inside(NONE, EVEN, ("inside", ())), True)
        self.assertIs(accepts_inside(NONE, NONE, ("inside", ())), True)
        self.assertIs(accepts_inside(EVEN, NONE, ("inside", ())), False)
        self.assertIs(accepts_inside(NONE, EVEN, ("inside", ((0, 0),))), False)
        self.assertIs(accepts_inside(EVEN, NONE, ("outside", "")), True)
        self.assertEqual(inside_paper(NONE, EVEN), ("inside", ()))
        self.assertEqual(inside_paper(NONE, NONE), ("inside", ()))

    def test_point_34_exactly_4000_pairs_and_more(self):
        every = circle("a", 32, tuple(range(32)))
        kind, pairs = inside_paper(circle("a", 125), every)
        self.assertEqual((kind, len(set(pairs)), len(pairs)), ("inside", 4000, 4000))
        self.assertIs(accepts_inside(circle("a", 125), every, ("inside", pairs)), True)
        self.assertIs(accepts_inside(circle("a", 125), every, ("inside", pairs[::-1])), True)
        self.assertIs(accepts_inside(circle("a", 125), every, ("inside", pairs[1:])), False)
        self.assertIs(accepts_inside(circle("a", 125), every, ("inside", pairs + pairs[:1])), False)
        self.assertEqual(what_of(self, inside_paper, circle("a", 125, (0, 1), 1), every), "pairs")
        self.assertEqual(what_of(self, inside_paper, circle("a", 63), circle("a", 64, tuple(range(64)))), "pairs")
        # Of the machines as they are given: their least machines have 125 pairs, and one.
        self.assertEqual(what_of(self, inside_paper, circle("a", 250, (0, 125), 1), every), "pairs")
        # If the language does not lie in the other one, pairs are no matter.
        self.assertEqual(inside_paper(circle("a", 63), circle("a", 64)), ("outside", "a" * 63))

    def test_point_34_outside_words_of_any_number_of_letters(self):
        self.assertIs(accepts_inside(EVERY, EVEN, ("outside", "a" * 100001)), True)
        self.assertIs(accepts_inside(EVERY, EVEN, ("outside", "a" * 100000)), False)
        self.assertIs(accepts_inside(EVERY, EVEN, ("outside", "c")), False)

    def test_point_8_and_34_values_of_any_kind(self):
        oddities.check_judge(self, lambda value: accepts_inside(EVEN, EVERY, value))
        oddities.check_judge(
            self, lambda value: accepts_inside(NONE, EVERY, value), [("inside",), "inside", ("inside", [])],
        )

    def test_point_34_equal_languages_lie_in_one_another(self):
        for machine, other, _ in some_pairs(36, 60):
            both = inside_paper(machine, other)[0], inside_paper(other, machine)[0]
            self.assertEqual(both == ("inside", "inside"), telling_word(machine, other) is None)


class Wrong(unittest.TestCase):
    def test_point_33_wrong_arguments(self):
        wrong = {"machine": oddities.MACHINES, "other": oddities.OTHERS}
        for function in (telling_word, outside_word, common, inside_paper):
            oddities.check_wrong(self, function, ("machine", "other"), (EVEN, EVERY), wrong)
        oddities.check_wrong(self, lambda machine, other: accepts_inside(machine, other, ()), ("machine", "other"),
                             (EVEN, EVERY), wrong)

    def test_point_33_ahead_of_too_large(self):
        for function in (common, inside_paper):
            self.assertTrue(oddities.is_refused(function, (circle("a", 400), circle("b", 399)), "other"))
            self.assertTrue(oddities.is_refused(function, (circle("a", 401), circle("b", 399)), "machine"))
            self.assertTrue(oddities.is_refused(function, (circle("a", 400), circle("a", 401)), "other"))


if __name__ == "__main__":
    unittest.main()
