"""The looks of one language (points 92 to 100)."""

import itertools
import random
import unittest

from backseen.comparing import common
from backseen.errors import TooLarge
from backseen.looking import accepts_five, clashes, five_against, has_property, is_of_look
from backseen.machines import is_least, least_of, takes, tree_of
from backseen.single import accepts_look, least_look, look_evidence
import oddities
import oracles
from oddities import EVEN, EVERY, NONE, chain, circle

NO_LOOK = ("ab", ((1, 2), (None, 1), (3, 2), (None, None)), (1, 2, 3))
SIX = ("ab", ((0, 1), (None, 2), (3, 2), (1, 0)), (0, 1))
THREE = ("ab", ((None, 1), (2, 2), (0, None)), (0, 2))
MACHINES = (
    oracles.all_machines("a", 3) + oracles.all_machines("ab", 2) + oracles.random_machines(92, 150, "ab", 5)
    + oracles.random_machines(93, 30, "abcd", 4) + [NONE, EVEN, EVERY, NO_LOOK, SIX, THREE]
)
chance = random.Random(94)


def longest(many):
    """A least machine with so many states in which each pair but the last has one letter ahead: the greatest look.

    The pairs come by their differences 1, many - 1, 2, many - 2 and so on; within one difference the letter b goes on.
    """
    half = many // 2
    differences = [at // 2 + 1 if at % 2 == 0 else many - (at + 1) // 2 for at in range(many - 1)]
    place = {difference: at for at, difference in enumerate(differences)}
    rows = [[None, None, None] for _ in range(many)]
    for at in range(many - 1):
        rows[at][1] = at + 1
    for letter in (0, 2):
        rows[many - 1][letter] = 0
    last = differences[-1]
    for at, difference in enumerate(differences[:-1]):
        rows[many - 1 - difference][0 if difference <= half else 2] = differences[at + 1]
    assert place[last] == many - 2
    return oracles.machine_of("abc", rows, {many - 1 - last, many - 1})


def least_of_looks(machine):
    """The least look by pairs that are told plainly, or None."""
    least = least_of(machine)
    many = len(least[1])
    pairs = set(clashes(least))
    for k in range(many * (many - 1) // 2 + 1):
        if not pairs:
            return k
        pairs = {
            (p, q) for p, q in itertools.combinations(range(many), 2)
            for to, other in zip(least[1][p], least[1][q])
            if to is not None and other is not None and (min(to, other), max(to, other)) in pairs
        }
    return None


class Looks(unittest.TestCase):
    def test_point_93_least_looks(self):
        told = {}
        for machine in MACHINES:
            k = least_look(machine)
            told[k] = told.get(k, 0) + 1
            self.assertIn(type(k), (int, type(None)))
            self.assertEqual(k, least_of_looks(machine))
            for look in range(13):
                self.assertEqual(is_of_look(machine, look), k is not None and k <= look)
        self.assertGreater(min(told[0], told[1], told[2], told[None]), 5)
        self.assertGreater(len(told), 4)

    def test_point_92_all_machines_of_one_language(self):
        for machine in MACHINES:
            least = least_of(machine)
            self.assertEqual(least_look(machine), least_look(least))
            self.assertIs(accepts_look(machine, look_evidence(least)), True)
            self.assertIs(accepts_look(least, look_evidence(machine)), True)

    def test_point_94_the_greatest_look(self):
        for many in range(3, 21):
            machine = longest(many)
            self.assertTrue(is_least(machine))
            self.assertEqual(len(machine[1]), many)
            self.assertEqual(least_look(machine), many * (many - 1) // 2)
            paper = look_evidence(machine)
            self.assertEqual(paper[:2], ("look", many * (many - 1) // 2))
            self.assertEqual(len(paper[2][2]), paper[1] - 1)
            self.assertIs(accepts_look(machine, paper), True)
        self.assertEqual(least_look(machine), 190)
        self.assertIs(accepts_look(machine, ("look", 191, paper[2])), False)
        self.assertIs(accepts_look(machine, ("look", 189, paper[2])), False)
        self.assertIs(accepts_look(machine, ("look", 190, ())), False)

    def test_point_94_no_look_is_greater_than_the_number_of_pairs(self):
        for machine in oracles.all_machines("ab", 2) + oracles.all_machines("a", 4):
            k = least_look(machine)
            many = len(least_of(machine)[1])
            self.assertTrue(k is None or k <= many * (many - 1) // 2)

    def test_point_97_evidence_of_exactly_one_word(self):
        told = {"look": 0, "none": 0}
        for machine in MACHINES:
            paper = look_evidence(machine)
            told[paper[0]] += 1
            self.assertIs(accepts_look(machine, paper), True)
            if paper[0] == "look":
                _, k, five = paper
                self.assertEqual(k, least_look(machine))
                self.assertEqual(five == (), k == 0)
                self.assertTrue(k == 0 or accepts_five(machine, k - 1, five))
            else:
                self.assertIsNone(least_look(machine))
                self.check_none(machine, paper)
        self.assertGreater(min(told.values()), 30)

    def check_none(self, machine, paper):
        least = least_of(machine)
        _, x, y, loop, middle, w, z = paper
        self.assertLessEqual(max(map(len, paper[1:])), 500)
        self.assertNotEqual(loop, "")
        for word in (x, y):
            state = oracles.state_behind(least, word)
            self.assertEqual(oracles.state_behind(least, loop, state), state)
        self.assertTrue(takes(machine, x + middle + w) and takes(machine, y + middle + w))
        self.assertTrue(takes(machine, x + middle + z) and not takes(machine, y + middle + z))
        for many in range(4):
            v = loop * many + middle
            self.assertIs(len(v) > 12 or accepts_five(machine, len(v), (x, y, v, w, z)), True)

    def test_point_98_common_parts(self):
        pool = [machine for machine in MACHINES if machine[0] == "ab"]
        tried = 0
        for _ in range(500):
            one, other = chance.choice(pool), chance.choice(pool)
            looks = least_look(one), least_look(other), least_look(common(one, other))
            if None not in looks[:2]:
                tried += 1
                self.assertIsNotNone(looks[2])
                self.assertLessEqual(looks[2], max(looks[:2]))
        self.assertGreater(tried, 100)

    def test_point_98_finitely_many_words(self):
        for sample in oracles.random_samples(98, 150, "ab", 4, 5):
            machine = tree_of("ab", sample)
            if len(least_of(machine)[1]) <= 20:
                self.assertLessEqual(least_look(machine), max(map(len, sample), default=0))

    def test_point_98_the_least_look_0(self):
        for machine in MACHINES:
            _, rows, ends = least_of(machine)
            injective = all(
                len({row[at] for row in rows} - {None}) == len([row for row in rows if row[at] is not None])
                for at in range(len(machine[0]))
            )
            self.assertEqual(least_look(machine) == 0, len(ends) <= 1 and injective)

    def test_point_100_example(self):
        self.assertIsNone(least_look(NO_LOOK))
        self.assertEqual(
            oracles.language(NO_LOOK, 4), {"a", "ab", "abb", "abbb", "b", "bb", "bbb", "bbbb", "ba", "bba", "bbba"},
        )
        self.assertIs(accepts_look(NO_LOOK, ("none", "b", "a", "b", "", "", "a")), True)
        self.assertEqual((least_look(SIX), least_look(THREE)), (6, 3))
        self.assertEqual(clashes(THREE), ((0, 2),))
        # No least machine with three states over two letters has a greater one.
        found = [least_of_looks(machine) for machine in oracles.random_machines(100, 3000, "ab", 3)]
        self.assertEqual(max(k for k in found if k is not None), 3)
        self.assertEqual(least_look(EVEN), 0)
        self.assertEqual(least_look(NONE), 0)
        self.assertEqual(look_evidence(NONE), ("look", 0, ()))


class Judging(unittest.TestCase):
    def test_point_95_looks_by_whomever(self):
        for machine in MACHINES:
            right = least_look(machine)
            for k in range(5):
                five = five_against(machine, k - 1) if k else ()
                value = ("look", k, five)
                self.assertIs(accepts_look(machine, value), k == right)
                if k and five is not None:
                    self.assertIs(accepts_look(machine, ("look", k - 1, five)), False)
                    self.assertIs(accepts_look(machine, ("look", k + 1, five)), False)
                    x, y, v, w, z = five
                    self.assertIs(accepts_look(machine, ("look", k, (y, x, v, w, z))), False)
                    self.assertIs(accepts_look(machine, ("look", k, list(five))), False)
        # The property is asked for in the least machine.
        doubled = circle("ab", 4, (0, 2))
        self.assertIs(has_property(doubled, 0), False)
        self.assertIs(accepts_look(doubled, ("look", 0, ())), True)

    def test_point_95_looks_above_the_least_one(self):
        five = ("bb", "bba", "abaab", "baa", "")
        self.assertIs(accepts_look(SIX, ("look", 6, five)), True)
        for value in (
            ("look", 5, five), ("look", 7, five), ("look", 6, ()), ("look", 6, five[:4]), ("look", 0, ()),
            ("look", 0, five),
            ("look", 6, five, ()), ("look", 6), ("none", 6, five), ("look", True, five), ("look", 6.0, five),
            ["look", 6, five],
            ("look", 191, five), ("look", -1, ()), ("look", 10 ** 100, five), ("Look", 6, five), (None, 6, five),
        ):
            self.assertIs(accepts_look(SIX, value), False, value)
        self.assertIs(accepts_look(EVEN, ("look", 0, ())), True)
        self.assertIs(accepts_look(EVEN, ("look", False, ())), False)
        self.assertIs(accepts_look(EVEN, ("look", 0, [])), False)
        self.assertIs(accepts_look(EVEN, ("look", 0, ("",))), False)
        self.assertIs(accepts_look(EVEN, ("look", 0, None)), False)

    def test_point_96_all_small_words(self):
        words, told = oracles.all_words("ab", 1), {True: 0, False: 0}
        pool = [machine for machine in MACHINES if machine[0] == "ab" and least_look(machine) is None][:6]
        for machine in pool + [NO_LOOK, SIX, NONE, circle("ab", 4, (0, 2))]:
            least = least_of(machine)
            for six in itertools.product(words + ["ba"], words, words + ["bb"], words, words, words):
                x, y, loop, middle, w, z = six
                good = loop != ""
                for word in (x, y):
                    state = oracles.state_behind(least, word)
                    good = good and state is not None and oracles.state_behind(least, loop, state) == state
                good = good and takes(machine, x + middle + w) and takes(machine, y + middle + w)
                good = good and takes(machine, x + middle + z) and not takes(machine, y + middle + z)
                told[good] += 1
                self.assertIs(accepts_look(machine, ("none",) + six), good, (machine, six))
        self.assertGreater(min(told.values()), 20)

    def test_point_96_the_loop_leads_back_in_the_least_machine(self):
        # Handed in with every loop twice as long.
        letters, rows, ends = NO_LOOK
        doubled = oracles.machine_of(
            letters, [tuple(None if to is None else (at % 2 == 0) + 2 * to for to in rows[at // 2]) for at in range(8)],
            {2 * end + odd for end in ends for odd in (0, 1)},
        )
        self.assertEqual(least_of(doubled), least_of(NO_LOOK))
        self.assertNotEqual(doubled, NO_LOOK)
        self.assertIs(accepts_look(doubled, ("none", "b", "a", "b", "", "", "a")), True)

    def test_point_96_words_of_500_letters_and_501(self):
        for many in (500, 501):
            told = many == 500
            self.assertIs(accepts_look(NO_LOOK, ("none", "b" * many, "a", "b", "", "", "a")), told)
            self.assertIs(accepts_look(NO_LOOK, ("none", "b", "a" + "b" * (many - 1), "b", "", "", "a")), told)
            self.assertIs(accepts_look(NO_LOOK, ("none", "b", "a", "b" * many, "", "", "a")), told)
            self.assertIs(accepts_look(NO_LOOK, ("none", "b", "a", "b", "b" * many, "", "a")), told)
            self.assertIs(accepts_look(NO_LOOK, ("none", "b", "a", "b", "", "b" * many, "a")), told)
            self.assertIs(accepts_look(NO_LOOK, ("none", "b", "a", "b", "", "", "b" * (many - 1) + "a")), told)
        # One clash, behind one b: v may be of any length up to 500, but a look is at most 190.
        machine = tree_of("ab", ("a" * 3, "b" * 3, "a" * 3 + "b"))
        k = least_look(machine)
        x, y, v, w, z = look_evidence(machine)[2]
        self.assertIs(accepts_look(machine, ("look", k, (x, y, v, w, z + "b" * 500))), False)

    def test_point_95_five_words_of_500_letters_and_501(self):
        # No two letters a beside one another.
        same = ("ab", ((1, 0), (None, 0)), (0, 1))
        self.assertEqual(least_look(same), 1)
        for many in (500, 501):
            for five in (
                ("b" * many, "a", "", "", "a"), ("", "b" * (many - 1) + "a", "", "", "a"),
                ("", "a", "", "b" * many, "a"),
                ("", "a", "", "", "a" + "b" * (many - 1)),
            ):
                self.assertIs(accepts_look(same, ("look", 1, five)), many == 500, five)

    def test_point_96_and_8_values_of_any_kind(self):
        names = ("look", "none")
        for machine in (EVEN, NO_LOOK, SIX, NONE):
            more = [("look", 1, ()), ("none",) + ("",) * 6, ("none",) * 7, ("look", 1, ("",) * 5)]
            oddities.check_judge(self, lambda value: accepts_look(machine, value), more, names)
        six = ("b", "a", "b", "", "", "a")
        for value in (
            ["none", *six], ("none", six), ("none",) + six + ("",), ("none",) + six[:5], ("None",) + six, (None,) + six,
            ("look",) + six, ("none", "a", "b", "b", "", "", "a"), ("none", "b", "a", "", "", "", "a"),
        ):
            self.assertIs(accepts_look(NO_LOOK, value), False)
        for at in range(6):
            for odd in oddities.oddities() + [None, 0, "c", ("a",)]:
                self.assertIs(accepts_look(NO_LOOK, ("none",) + six[:at] + (odd,) + six[at + 1:]), False)
        five = ("bb", "bba", "abaab", "baa", "")
        for at in range(5):
            for odd in oddities.oddities() + [None, 0, "c", ("a",)]:
                self.assertIs(accepts_look(SIX, ("look", 6, five[:at] + (odd,) + five[at + 1:])), False)
        for odd in oddities.oddities() + [None, "6"]:
            self.assertIs(accepts_look(SIX, ("look", odd, five)), False)
            self.assertIs(accepts_look(SIX, ("look", 6, odd)), False)


class Edges(unittest.TestCase):
    def test_point_99_exactly_20_states_and_more(self):
        for machine in (chain("ab", 20), circle("a", 20), circle("ab", 400, tuple(range(0, 400, 20)))):
            self.assertEqual(len(least_of(machine)[1]), 20)
            self.assertEqual(least_look(machine), 0)
            self.assertEqual(look_evidence(machine), ("look", 0, ()))
            self.assertIs(accepts_look(machine, ("look", 0, ())), True)
        large = (chain("ab", 21), circle("a", 21), circle("ab", 399, tuple(range(0, 399, 21))), circle("a", 400))
        for machine in large:
            for function in (
                least_look, look_evidence, lambda machine: accepts_look(machine, ("look", 0, ())),
                lambda machine: accepts_look(machine, None),
                lambda machine: accepts_look(machine, oddities.nested(tuple)),
            ):
                with self.assertRaises(TooLarge) as caught:
                    function(machine)
                self.assertEqual(caught.exception.what, "states")
        self.assertEqual(least_look(circle("a", 400, tuple(range(400)))), 0)

    def test_point_97_evidence_of_machines_with_20_states(self):
        found = {"look": 0, "none": 0}
        for _ in range(60):
            machine = oracles.random_machine(
                chance, chance.choice(("ab", "abcd")), 20, chance.choice((0, 0.3, 0.6)), 0.1,
            )
            paper = look_evidence(machine)
            found[paper[0]] += 1
            self.assertIs(accepts_look(machine, paper), True)
        self.assertGreater(found["none"], 20)
        # All pairs stand on one loop of many letters: two circles that are gone along together.
        turns = [tuple((at + 1) % 4 if at < 4 else 4 + (at - 3) % 5 for at in range(9))]
        rows = [(to, None) for to in turns[0]] + [(0, 4)]
        machine = oracles.machine_of("ab", rows, {0, 4, 9}, 9)
        paper = look_evidence(machine)
        self.assertEqual(paper[0], "none")
        self.assertIs(accepts_look(machine, paper), True)
        rows = [((at + 1) % 9, None) for at in range(9)] + [(9 + (at + 1) % 10, None) for at in range(10)] + [(0, 9)]
        machine = oracles.machine_of("ab", rows, {0, 9, 19}, 19)
        paper = look_evidence(machine)
        self.assertEqual(len(least_of(machine)[1]), 20)
        self.assertEqual(len(paper[3]), 90)
        self.assertIs(accepts_look(machine, paper), True)

    def test_point_99_wrong_arguments(self):
        wrong = {"machine": oddities.MACHINES + [chain("a", 401)]}
        for function in (least_look, look_evidence, lambda machine: accepts_look(machine, None)):
            oddities.check_wrong(self, function, ("machine",), (EVEN,), wrong)


if __name__ == "__main__":
    unittest.main()
