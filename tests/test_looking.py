"""Looking back (points 6, 36 to 44)."""

import itertools
import random
import unittest

from backseen.comparing import common
from backseen.looking import accepts_five, clashes, five_against, has_property, is_of_look, pairs_back
from backseen.machines import first_words, least_of, takes, tree_of
import oddities
import oracles
from oddities import EVEN, EVERY, NONE, chain, circle

SIX = ("ab", ((0, 1), (None, 2), (3, 2), (1, 0)), (0, 1))
SMALL = oracles.all_machines("ab", 1) + oracles.all_machines("ab", 2) + [NONE]
SMALL += oracles.all_machines("a", 1) + oracles.all_machines("a", 2) + oracles.all_machines("a", 3)
SMALL += oracles.random_machines(36, 150, "ab", 5) + oracles.random_machines(37, 40, "abc", 4)


def naive_clashes(machine):
    _, rows, ends = machine
    return tuple(
        (p, q) for p, q in itertools.combinations(range(len(rows)), 2)
        if (p in ends and q in ends) or any(one is not None and one == two for one, two in zip(rows[p], rows[q]))
    )


def naive_pairs(machine, k):
    told = naive_clashes(machine)
    found = []
    for p, q in itertools.combinations(range(len(machine[1])), 2):
        for word in itertools.product(machine[0], repeat=k):
            states = oracles.state_behind(machine, word, p), oracles.state_behind(machine, word, q)
            if None not in states and tuple(sorted(states)) in told:
                found.append((p, q))
                break
    return tuple(found)


def is_of_look_by_words(machine, k, most):
    """Whether the language is of look k, as far as words of at most so many letters tell (point 6)."""
    words = oracles.all_words(machine[0], most)
    language = oracles.language(machine, 2 * most)
    ends = {word: frozenset(w for w in words if word + w in language) for word in words}
    for one, other in itertools.combinations(words, 2):
        if oracles.alike(one, other, k) and ends[one] & ends[other] and ends[one] != ends[other]:
            return False
    return True


class Property(unittest.TestCase):
    def test_point_37_clashes(self):
        for machine in SMALL:
            self.assertEqual(clashes(machine), naive_clashes(machine))

    def test_point_36_and_38_pairs_ahead_of_a_clash(self):
        for machine in SMALL:
            for k in range(4):
                self.assertEqual(pairs_back(machine, k), naive_pairs(machine, k))
            self.assertEqual(pairs_back(machine, 0), clashes(machine))

    def test_point_37_and_38_the_property(self):
        for machine in SMALL:
            for k in range(4):
                told = True
                for word in itertools.product(machine[0], repeat=k):
                    led = {oracles.state_behind(machine, word, state) for state in range(len(machine[1]))}
                    told = told and not any(p in led and q in led for p, q in naive_clashes(machine))
                self.assertIs(has_property(machine, k), told)
            held = [has_property(machine, k) for k in range(13)]
            self.assertEqual(held, sorted(held))
            self.assertEqual(held, [pairs_back(machine, k) == () for k in range(13)])

    def test_point_38_one_letter_more_ahead(self):
        for machine in SMALL[::3]:
            for k in range(12):
                ahead = set(pairs_back(machine, k))
                told = tuple(
                    (p, q) for p, q in itertools.combinations(range(len(machine[1])), 2)
                    if any(
                        None not in targets and tuple(sorted(targets)) in ahead
                        for targets in zip(machine[1][p], machine[1][q])
                    )
                )
                self.assertEqual(pairs_back(machine, k + 1), told)

    def test_point_39_the_property_brings_words_to_one_state(self):
        for machine in SMALL[::4]:
            words = oracles.all_words(machine[0], 4)
            rests = {word: {w for w in words if takes(machine, word + w)} for word in words}
            for k in range(3):
                if has_property(machine, k):
                    for one, other in itertools.combinations(words, 2):
                        if oracles.alike(one, other, k) and rests[one] & rests[other]:
                            self.assertEqual(
                                oracles.state_behind(machine, one), oracles.state_behind(machine, other)
                            )

    def test_point_37_machines_that_are_not_least_are_looked_at_as_they_are(self):
        doubled = circle("ab", 2, (0, 1))
        self.assertEqual(clashes(doubled), ((0, 1),))
        self.assertIs(has_property(doubled, 12), False)
        self.assertIs(is_of_look(doubled, 0), True)
        self.assertIs(has_property(EVERY, 0), True)


class Looks(unittest.TestCase):
    def test_point_6_and_39_is_of_look(self):
        for machine in SMALL:
            for k in range(4):
                told = is_of_look(machine, k)
                self.assertIs(told, has_property(least_of(machine), k))
        for machine in [small for small in SMALL if len(small[0]) < 3 and len(small[1]) < 4][::2]:
            for k in range(4):
                told = is_of_look_by_words(machine, k, 5 if machine[0] == "ab" else 10)
                self.assertIs(is_of_look(machine, k), told)

    def test_point_6_languages_of_look_0(self):
        for machine in (NONE, EVERY, chain("ab", 400), chain("a", 7), ("ab", ((None, 1), (None, None)), (1,))):
            for k in range(13):
                self.assertIs(is_of_look(machine, k), True)

    def test_point_6_and_38_of_greater_looks_too(self):
        for machine in SMALL:
            told = [is_of_look(machine, k) for k in range(13)]
            self.assertEqual(told, sorted(told))

    def test_point_40_five_words(self):
        for machine in SMALL:
            least = least_of(machine)
            for k in (0, 1, 2, 3, 5, 12):
                five = five_against(machine, k)
                self.assertEqual(five is None, is_of_look(machine, k))
                if five is None:
                    continue
                x, y, v, w, z = five
                self.assertEqual(len(v), k)
                self.assertTrue(takes(machine, x + v + w) and takes(machine, y + v + w) and takes(machine, x + v + z))
                self.assertFalse(takes(machine, y + v + z))
                self.assertLess(max(map(len, (x, y, z))), len(least[1]))
                self.assertLessEqual(len(w), len(least[1]))
                self.assertIs(accepts_five(machine, k, five), True)
                self.assertIs(accepts_five(least, k, five), True)

    def test_point_40_judging_all_small_five_words(self):
        words = oracles.all_words("ab", 1)
        for machine in oracles.random_machines(40, 30, "ab", 4):
            for k in (0, 1, 2):
                for five in itertools.product(words, words, oracles.all_words("ab", 2), words, words):
                    x, y, v, w, z = five
                    told = (
                        len(v) == k and takes(machine, x + v + w) and takes(machine, y + v + w)
                        and takes(machine, x + v + z) and not takes(machine, y + v + z)
                    )
                    self.assertIs(accepts_five(machine, k, five), told)

    def test_point_40_words_of_500_letters_and_501(self):
        # Any number of letters b, perhaps with one a among them, behind which at most one b may stand.
        machine = ("ab", ((1, 0), (None, 2), (None, None)), (0, 1, 2))
        for many in (500, 501):
            for five in (
                ("b" * many, "a", "b", "", "b"), ("", "a", "b", "", "b" * many), ("b" * many, "a", "", "", "bb"),
                ("b" * 3, "b" * (many - 1) + "a", "b", "", "b"),
            ):
                self.assertIs(accepts_five(machine, len(five[2]), five), many == 500, (many, five))
        same = ("ab", ((0, 1), (1, 2), (1, 2)), (0, 2))
        for many in (500, 501):
            five = ("a", "b", "", "b" * many, "")
            self.assertTrue(takes(same, five[0] + five[3]) and takes(same, five[1] + five[3]))
            self.assertIs(accepts_five(same, 0, five), many == 500)

    def test_point_40_changed_five_words_are_judged_by_the_words(self):
        chance = random.Random(41)
        for machine in SMALL:
            for k in (0, 1, 2):
                five = five_against(machine, k)
                if five is None:
                    continue
                for _ in range(10):
                    changed = list(five)
                    at = chance.randrange(5)
                    changed[at] = chance.choice((changed[at][1:], changed[at] + machine[0][-1], machine[0][0]))
                    x, y, v, w, z = changed
                    told = (
                        len(v) == k and takes(machine, x + v + w) and takes(machine, y + v + w)
                        and takes(machine, x + v + z) and not takes(machine, y + v + z)
                    )
                    self.assertIs(accepts_five(machine, k, tuple(changed)), told)

    def test_point_40_and_8_values_of_any_kind(self):
        for k in (0, 1, 2):
            oddities.check_judge(self, lambda value: accepts_five(EVERY, k, value), [("",) * 5, ("a",) * 5])
        five = ("bb", "bba", "abaab", "baa", "")
        self.assertIs(accepts_five(SIX, 5, five), True)
        self.assertIs(accepts_five(SIX, 4, five), False)
        self.assertIs(accepts_five(SIX, 6, five), False)
        for value in (list(five), five[:4], five + ("",), (five,), five[:4] + (None,), five[:4] + ("c",)):
            self.assertIs(accepts_five(SIX, 5, value), False)
        for at in range(5):
            for odd in oddities.oddities() + [None, 0, ("a",)]:
                self.assertIs(accepts_five(SIX, 5, five[:at] + (odd,) + five[at + 1:]), False)

    def test_point_41_five_words_become_five_words_of_a_smaller_look(self):
        for machine in SMALL:
            for k in range(4):
                five = five_against(machine, k + 1)
                if five is not None:
                    x, y, v, w, z = five
                    self.assertIs(accepts_five(machine, k, (x + v[0], y + v[0], v[1:], w, z)), True)

    def test_point_41_common_parts(self):
        chance = random.Random(42)
        pool = [machine for machine in SMALL if machine[0] == "ab"]
        for _ in range(300):
            one, other = chance.choice(pool), chance.choice(pool)
            found = common(one, other)
            for k in range(4):
                if is_of_look(one, k) and is_of_look(other, k):
                    self.assertIs(is_of_look(found, k), True)

    def test_point_41_finitely_many_words_of_at_most_k_letters(self):
        for sample in oracles.random_samples(43, 100):
            longest = max(map(len, sample), default=0)
            self.assertIs(is_of_look(tree_of("ab", sample), longest), True)

    def test_point_41_all_machines_of_one_language(self):
        for machine in SMALL:
            least = least_of(machine)
            for k in range(3):
                self.assertIs(is_of_look(machine, k), is_of_look(least, k))

    def test_point_42_the_union_need_not_be_of_the_look(self):
        for k in range(12):
            one, other = chain("a", k + 1), chain("a", k + 2)
            self.assertTrue(is_of_look(one, 0) and is_of_look(other, 0))
            union = chain("a", k + 2, (k, k + 1))
            self.assertEqual([is_of_look(union, look) for look in (k, k + 1)], [False, True])
            self.assertIs(accepts_five(union, k, ("", "a", "a" * k, "", "a")), True)

    def test_point_44_example(self):
        tree = tree_of("ab", ("a", "b"))
        self.assertEqual(clashes(tree), ((1, 2),))
        self.assertEqual([has_property(tree, k) for k in range(13)], [False] + [True] * 12)
        self.assertEqual([is_of_look(tree, k) for k in range(13)], [True] * 13)
        self.assertEqual(clashes(SIX), ((0, 1), (1, 2)))
        self.assertEqual([is_of_look(SIX, k) for k in range(13)], [False] * 6 + [True] * 7)
        self.assertEqual(least_of(SIX), SIX)
        self.assertEqual(oracles.state_behind(SIX, "abaab", 2), 1)
        self.assertEqual(oracles.state_behind(SIX, "abaab", 3), 2)
        self.assertEqual(first_words(SIX)[2:], ("bb", "bba"))


class Edges(unittest.TestCase):
    def test_without_states(self):
        for k in range(13):
            self.assertEqual((clashes(NONE), pairs_back(NONE, k)), ((), ()))
            self.assertIs(has_property(NONE, k), True)
            self.assertIs(is_of_look(NONE, k), True)
            self.assertIsNone(five_against(NONE, k))
            self.assertIs(accepts_five(NONE, k, ("", "", "a" * k, "", "")), False)

    def test_point_43_machines_of_400_states(self):
        chance = random.Random(400)
        turns = [chance.sample(range(400), 400) for _ in "abcd"]
        machine = oracles.machine_of("abcd", list(zip(*turns)), set(range(0, 400, 3)))
        self.assertEqual(len(machine[1]), 400)
        self.assertIs(has_property(machine, 12), False)
        self.assertIs(is_of_look(machine, 12), False)
        self.assertIs(accepts_five(machine, 12, five_against(machine, 12)), True)
        many = circle("ab", 400, tuple(range(0, 400, 2)))
        self.assertEqual(len(pairs_back(many, 12)), 200 * 199 // 2)
        self.assertIs(is_of_look(many, 0), True)
        every = circle("ab", 400, tuple(range(400)))
        self.assertEqual(len(clashes(every)), 400 * 399 // 2)
        self.assertEqual(pairs_back(every, 12), clashes(every))
        self.assertIs(is_of_look(every, 0), True)
        self.assertIsNone(five_against(every, 0))

    def test_point_43_looks_up_to_12_on_a_long_way_to_a_clash(self):
        # Two ways that meet twelve letters behind their beginnings, and are told apart only at the end.
        sample = ("a" + "b" * 12, "b" + "b" * 12, "a" + "b" * 12 + "a")
        tree = tree_of("ab", tuple(sorted(sample, key=oracles.place)))
        self.assertEqual([is_of_look(tree, k) for k in range(13)], [False] * 13)
        self.assertIs(accepts_five(tree, 12, five_against(tree, 12)), True)
        shorter = tree_of("ab", ("a" + "b" * 11, "b" * 12, "a" + "b" * 11 + "a"))
        self.assertEqual([is_of_look(shorter, k) for k in range(13)], [False] * 12 + [True])

    def test_point_43_wrong_arguments(self):
        wrong = {"machine": oddities.MACHINES + [chain("a", 401)], "k": oddities.LOOKS}
        oddities.check_wrong(self, clashes, ("machine",), (EVEN,), wrong)
        for function in (pairs_back, has_property, is_of_look, five_against):
            oddities.check_wrong(self, function, ("machine", "k"), (EVEN, 1), wrong)
        oddities.check_wrong(
            self, lambda machine, k: accepts_five(machine, k, None), ("machine", "k"), (EVEN, 1), wrong,
        )


if __name__ == "__main__":
    unittest.main()
