"""Unions and complements, and evidence whether they are of a look (points 82 to 84)."""

import itertools
import math
import random
import unittest

from backseen.building import (
    accepts_complement, accepts_union, complement_of, complement_paper, union_of, union_paper,
)
from backseen.comparing import common, outside_word, telling_word
from backseen.errors import TooLarge
from backseen.looked import looked_machine
from backseen.looking import has_property, is_of_look
from backseen.machines import is_least, is_machine, least_of, takes, tree_of
from backseen.wholes import closure_of, together
import oddities
import oracles
from oddities import EVEN, EVERY, NONE, chain, circle

MACHINES = oracles.random_machines(82, 60, "ab", 4) + [NONE, EVEN, EVERY]
chance = random.Random(83)
PAIRS = [(chance.choice(MACHINES), chance.choice(MACHINES)) for _ in range(250)] + [(NONE, NONE), (NONE, EVERY)]
LOOKS = (0, 1, 2)


def raised(function, *arguments):
    try:
        function(*arguments)
    except TooLarge as error:
        return error.what
    return None


def minus(machine, other):
    return common(machine, complement_of(other))


def many_pairs(machine, other):
    """How many pairs count for a union, by going through them plainly."""
    pairs, queue = set(), [(0 if machine[1] else None, 0 if other[1] else None)]
    while queue:
        pair = queue.pop()
        if pair == (None, None) or pair in pairs:
            continue
        pairs.add(pair)
        for at in range(len(machine[0])):
            queue.append(tuple(None if p is None else whole[1][p][at] for p, whole in zip(pair, (machine, other))))
    return len(pairs)


def last_letters(letter, many, ahead):
    """The words of a and b behind so many letters c but those that end with the letter, it standing k * many times."""
    rows, ends = [], []
    for at in range(ahead):
        rows.append((None, None, at + 1))
    start = ahead
    for count in range(many):
        step = start + (count + 1) % many if count + 1 < many else start + many
        rows.append((step, start + count, None) if letter == "a" else (start + count, step, None))
        ends.append(start + count)
    # The letter has stood so many times, and is the last one: no end.
    one = start + 1 if many > 1 else start + many
    rows.append((one, start, None) if letter == "a" else (start, one, None))
    return oracles.machine_of("abc", rows, ends)


class Unions(unittest.TestCase):
    def test_point_82_unions(self):
        for one, other in PAIRS:
            made = union_of(one, other)
            self.assertIs(is_machine(made) and is_least(made), True)
            for word in oracles.all_words("ab", 5):
                self.assertIs(takes(made, word), takes(one, word) or takes(other, word))
            self.assertEqual(union_of(other, one), made)
            self.assertEqual(union_of(least_of(one), other), made)
            self.assertEqual(union_of(one, one), least_of(one))
            self.assertEqual(union_of(one, NONE), least_of(one))
            self.assertEqual(union_of(NONE, one), least_of(one))
            self.assertEqual(union_of(one, EVERY), EVERY)

    def test_point_82_complements(self):
        for machine in MACHINES + oracles.random_machines(84, 20, "abcd", 3) + oracles.random_machines(85, 20, "a", 6):
            made = complement_of(machine)
            self.assertIs(is_machine(made) and is_least(made), True)
            self.assertEqual(made[0], machine[0])
            for word in oracles.all_words(machine[0], 4):
                self.assertIs(takes(made, word), not takes(machine, word))
            self.assertEqual(complement_of(made), least_of(machine))
            self.assertEqual(complement_of(least_of(machine)), made)
        self.assertEqual((complement_of(NONE), complement_of(EVERY)), (EVERY, NONE))

    def test_point_82_what_they_have_to_do_with_common_parts(self):
        for one, other in PAIRS[:100]:
            parts = common(complement_of(one), complement_of(other))
            self.assertEqual(complement_of(union_of(one, other)), parts)
            self.assertEqual(union_of(one, complement_of(one)), EVERY)
            self.assertEqual(common(one, complement_of(one)), NONE)
            self.assertEqual(minus(one, other) == NONE, outside_word(one, other) is None)

    def test_point_82_exactly_4000_pairs_and_more(self):
        # Both lack the words that the other one has: the union are all words of a and b behind the letters c.
        for ahead, told in ((0, None), (1, None), (2, "pairs"), (3, "pairs")):
            one, other = last_letters("a", 39, ahead), last_letters("b", 99, ahead)
            self.assertTrue(is_least(one) and is_least(other))
            self.assertEqual(many_pairs(one, other), 3999 + ahead)
            self.assertEqual(raised(union_of, one, other), told)
            self.assertEqual(raised(union_of, other, one), told)
            self.assertEqual(raised(union_paper, one, other, 0), told)
            self.assertEqual(raised(accepts_union, one, other, 0, None), None)
            made = ("abc", ((0, 0, None),), (0,)) if ahead == 0 else None
            made = ("abc", ((None, None, 1), (1, 1, None)), (1,)) if ahead == 1 else made
            if told is None:
                self.assertEqual(union_of(one, other), made)
                self.assertEqual(union_paper(one, other, 12), ("kept", made))
        # Judges never refuse: here the union is known, though it has too many pairs.
        one, other = last_letters("a", 39, 2), last_letters("b", 99, 2)
        result = ("abc", ((None, None, 1), (None, None, 2), (2, 2, None)), (2,))
        self.assertIs(accepts_union(one, other, 0, ("kept", result)), True)
        self.assertIs(accepts_union(one, other, 0, ("kept", ("abc", result[1], (1, 2)))), False)
        self.assertIs(accepts_union(one, other, 0, ("five", ("cc", "cca", "", "", ""))), False)
        self.assertIs(accepts_union(one, other, 0, ("five", ("cc", "c", "", "c", "cc"))), False)

    def test_point_82_pairs_with_nowhere_count_once(self):
        # Behind a the one leads nowhere, behind b the other one: so many states count for one each.
        one = ("ab", tuple((at + 1 if at < 199 else None, None) for at in range(200)), (199,))
        other = ("ab", tuple((None, at + 1 if at < 199 else None) for at in range(200)), (199,))
        self.assertEqual(many_pairs(one, other), 399)
        self.assertEqual(len(union_of(one, other)[1]), 398)
        self.assertIsNone(raised(union_of, one, other))
        self.assertEqual(many_pairs(NONE, NONE), 0)

    def test_point_82_pairs_of_the_least_machines(self):
        many, more = circle("a", 399, tuple(range(0, 399, 3))), circle("a", 400, tuple(range(0, 400, 2)))
        self.assertGreater(many_pairs(many, more), 4000)
        self.assertEqual(len(union_of(many, more)[1]), 6)

    def test_point_82_exactly_400_states_and_more_and_which_refusal_comes_first(self):
        for one, other, told in (
            (circle("a", 16), circle("a", 25), None),
            (circle("a", 16, (0, 1), 1), circle("a", 25, (0, 1), 1), "states"),
            (circle("a", 20), circle("a", 21), "states"), (circle("a", 32), circle("a", 125), "states"),
            (circle("a", 32, (0, 1), 1), circle("a", 125, (0, 1), 1), "pairs"),
            (circle("a", 63), circle("a", 64), "pairs"),
        ):
            self.assertEqual(raised(union_of, one, other), told)
            self.assertEqual(raised(union_paper, one, other, 3), told)
            pairs = many_pairs(least_of(one), least_of(other))
            self.assertEqual(pairs > 4000, told == "pairs")
            if told is None:
                self.assertEqual(len(union_of(one, other)[1]), 400)
                self.assertEqual(pairs, 400)
        self.assertEqual(math.lcm(32, 125), 4000)

    def test_point_82_complements_of_400_states_and_more(self):
        self.assertEqual(len(complement_of(chain("a", 399))[1]), 400)
        self.assertEqual(raised(complement_of, chain("a", 400)), "states")
        self.assertEqual(raised(complement_paper, chain("a", 400), 0), "states")
        self.assertEqual(raised(accepts_complement, chain("a", 400), 0, None), None)
        self.assertEqual(len(complement_of(circle("a", 400))[1]), 400)
        # The rows count that the least machine has, not those of the machine that is handed in.
        self.assertEqual(len(complement_of(circle("ab", 400, tuple(range(0, 400, 2))))[1]), 2)


class Evidence(unittest.TestCase):
    def test_point_83_evidence_of_exactly_one_word(self):
        told = {"kept": 0, "five": 0}
        for one, other in PAIRS:
            for k in LOOKS:
                made, paper = union_of(one, other), union_paper(one, other, k)
                told[paper[0]] += 1
                self.assertEqual(paper[0] == "kept", is_of_look(made, k))
                self.assertIs(accepts_union(one, other, k, paper), True)
                self.assertIs(accepts_union(other, one, k, paper), True)
                self.assertIs(accepts_union(one, other, k, ("kept", made)), is_of_look(made, k))
                if paper[0] == "five":
                    self.check_five(paper[1], k, made)
        self.assertGreater(min(told.values()), 50)
        told = {"kept": 0, "five": 0}
        for machine in MACHINES:
            for k in LOOKS:
                made, paper = complement_of(machine), complement_paper(machine, k)
                told[paper[0]] += 1
                self.assertEqual(paper[0] == "kept", is_of_look(made, k))
                self.assertIs(accepts_complement(machine, k, paper), True)
                self.assertIs(accepts_complement(machine, k, ("kept", made)), is_of_look(made, k))
                if paper[0] == "five":
                    self.check_five(paper[1], k, made)
        self.assertGreater(min(told.values()), 20)

    def check_five(self, five, k, made):
        x, y, v, w, z = five
        self.assertEqual(len(v), k)
        self.assertTrue(takes(made, x + v + w) and takes(made, y + v + w) and takes(made, x + v + z))
        self.assertFalse(takes(made, y + v + z))

    def test_point_83_a_union_is_of_the_look_if_it_is_the_closure_of_both(self):
        for one, other in PAIRS:
            for k in LOOKS:
                made = union_of(one, other)
                self.assertEqual(is_of_look(made, k), made == together(one, other, k))

    def test_point_83_neither_unions_nor_complements_keep_the_look(self):
        for k in range(12):
            one, other = chain("a", k + 1), chain("a", k + 2)
            self.assertEqual(union_paper(one, other, k)[0], "five")
            self.assertEqual(union_paper(one, other, k + 1)[0], "kept")
            self.assertIs(accepts_union(one, other, k, ("five", ("", "a", "a" * k, "", "a"))), True)
        self.assertEqual(complement_paper(chain("a", 2), 0)[0], "five")
        self.assertIs(is_of_look(chain("a", 2), 0), True)

    def test_point_83_machines_by_whomever(self):
        told = {True: 0, False: 0}
        for one, other in PAIRS:
            made = union_of(one, other)
            for k in LOOKS:
                for machine in (looked_machine(made, k + 1), looked_machine(made, k), one, closure_of(made, k), EVERY):
                    good = has_property(machine, k) and telling_word(machine, made) is None
                    told[good] += 1
                    self.assertIs(accepts_union(one, other, k, ("kept", machine)), good)
        for machine in MACHINES:
            made = complement_of(machine)
            for k in LOOKS:
                for result in (
                    looked_machine(made, k + 1), looked_machine(made, k), machine, closure_of(made, k), NONE,
                ):
                    good = has_property(result, k) and telling_word(result, made) is None
                    told[good] += 1
                    self.assertIs(accepts_complement(machine, k, ("kept", result)), good)
        self.assertGreater(min(told.values()), 200)
        # Not least, with the property from the look 1 on only.
        tree = tree_of("ab", ("a", "b"))
        one, other = tree_of("ab", ("a",)), tree_of("ab", ("b",))
        self.assertEqual([accepts_union(one, other, k, ("kept", tree)) for k in (0, 1, 2)], [False, True, True])
        self.assertIs(accepts_union(one, other, 0, ("kept", least_of(tree))), True)
        self.assertIs(accepts_union(one, other, 0, ("kept", ("ac",) + least_of(tree)[1:])), False)
        self.assertIs(accepts_union(one, other, 0, ("kept", ("abc", ((1, 1, None), (None,) * 3), (1,)))), False)
        self.assertIs(accepts_complement(EVERY, 0, ("kept", ("ac", (), ()))), False)
        self.assertIs(accepts_complement(EVERY, 0, ("kept", NONE)), True)
        self.assertIs(accepts_union(NONE, NONE, 0, ("kept", NONE)), True)
        for machine in oracles.all_machines("ab", 1):
            self.assertIs(accepts_union(NONE, NONE, 0, ("kept", machine)), False)
        self.assertIs(accepts_complement(complement_of(tree), 0, ("kept", tree)), False)
        self.assertIs(accepts_complement(complement_of(tree), 1, ("kept", tree)), True)

    def test_point_83_results_that_differ_in_one_word(self):
        for one, other in PAIRS[:120]:
            made = union_of(one, other)
            for word in ("", "a", "ba", "abb"):
                single = tree_of("ab", (word,))
                result = minus(made, single) if takes(made, word) else union_of(made, single)
                for k in range(6):
                    if is_of_look(result, k):
                        self.assertIs(accepts_union(one, other, k, ("kept", result)), False)
                        self.assertIs(accepts_complement(complement_of(made), k, ("kept", result)), False)

    def test_point_83_five_words_by_whomever(self):
        words = oracles.all_words("ab", 1)
        told = {True: 0, False: 0}
        for one, other in PAIRS[::5]:
            for k in (0, 1):
                for five in itertools.product(words, words, oracles.all_words("ab", k + 1), words, words):
                    x, y, v, w, z = five

                    def is_in(word):
                        return takes(one, word) or takes(other, word)

                    good = len(v) == k and is_in(x + v + w) and is_in(y + v + w) and is_in(x + v + z)
                    good = good and not is_in(y + v + z)
                    told[good] += 1
                    self.assertIs(accepts_union(one, other, k, ("five", five)), good)
                    good = len(v) == k and not (takes(one, x + v + w) or takes(one, y + v + w) or takes(one, x + v + z))
                    good = good and takes(one, y + v + z)
                    self.assertIs(accepts_complement(one, k, ("five", five)), good)
        self.assertGreater(min(told.values()), 30)

    def test_point_83_five_words_of_500_letters_and_501(self):
        same = ("ab", ((0, 1), (1, 2), (1, 2)), (0, 2))
        for many in (500, 501):
            five = ("a", "b", "", "b" * many, "")
            self.assertIs(accepts_union(same, NONE, 0, ("five", five)), many == 500)
            self.assertIs(accepts_complement(complement_of(same), 0, ("five", five)), many == 500)

    def test_point_83_and_8_values_of_any_kind(self):
        names = ("kept", "five")
        one, other = chain("ab", 1), chain("ab", 2)
        for judge, five in (
            (lambda value: accepts_union(one, other, 0, value), ("", "a", "", "", "a")),
            (lambda value: accepts_complement(complement_of(union_of(one, other)), 0, value), ("", "a", "", "", "a")),
        ):
            oddities.check_judge(self, judge, [("kept", EVERY), ("five", ("",) * 5), ("kept",), ("five",)], names)
            self.assertIs(judge(("five", five)), True)
            for value in (
                ["five", five], ("five", list(five)), ("five", five, ()), ("kept", five), ("Five", five), (None, five),
                ("five", five[:4]), ("five", five + ("",)), ("five",) + five, ("five", five[:4] + ("c",)),
            ):
                self.assertIs(judge(value), False)
            for at in range(5):
                for odd in oddities.oddities() + [None, 0, "b", "bb"]:
                    self.assertIs(judge(("five", five[:at] + (odd,) + five[at + 1:])), False)
        for k in (1, 2, 12):
            self.assertIs(accepts_union(one, other, k, ("kept", chain("ab", 2, (0, 1)))), True)
            self.assertIs(accepts_union(one, other, k, ("kept", list(chain("ab", 2, (0, 1))))), False)

    def test_point_83_large_machines(self):
        turns = [chance.sample(range(400), 400) for _ in "ab"]
        rows = list(zip(*turns))
        one, other = (oracles.machine_of("ab", rows, [at]) for at in (7, 11))
        both = oracles.machine_of("ab", rows, [7, 11])
        for k in (0, 12):
            self.assertIs(accepts_union(one, other, k, ("kept", both)), has_property(both, k))
            self.assertIs(accepts_union(one, other, k, ("kept", one)), False)
        every = circle("a", 400, tuple(range(400)))
        self.assertIs(accepts_union(every, every, 0, ("kept", ("a", ((0,),), (0,)))), True)
        self.assertIs(accepts_complement(every, 0, ("kept", ("a", (), ()))), True)

    def test_point_84_wrong_arguments(self):
        wrong = {
            "machine": oddities.MACHINES + [chain("a", 401)], "other": oddities.OTHERS + [chain("ab", 401)],
            "k": oddities.LOOKS,
        }
        names = ("machine", "other", "k")
        oddities.check_wrong(self, union_of, names[:2], (EVEN, EVERY), wrong)
        oddities.check_wrong(self, union_paper, names, (EVEN, EVERY, 1), wrong)
        oddities.check_wrong(
            self, lambda machine, other, k: accepts_union(machine, other, k, None), names, (EVEN, EVERY, 1), wrong,
        )
        oddities.check_wrong(self, complement_of, ("machine",), (EVEN,), wrong)
        oddities.check_wrong(self, complement_paper, ("machine", "k"), (EVEN, 1), wrong)
        oddities.check_wrong(
            self, lambda machine, k: accepts_complement(machine, k, None), ("machine", "k"), (EVEN, 1), wrong,
        )

    def test_point_84_ahead_of_too_large(self):
        self.assertTrue(oddities.is_refused(union_paper, (circle("a", 63), circle("a", 64), 13), "k"))
        self.assertTrue(oddities.is_refused(complement_paper, (chain("a", 400), True), "k"))


if __name__ == "__main__":
    unittest.main()
