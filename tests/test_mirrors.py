"""Mirrors (points 158 to 166), and what earlier chapters say of languages and sides read backward."""

import random
import unittest

from backseen.building import complement_of, union_of
from backseen.comparing import common, outside_word
from backseen.counting import count_at, growth_degree
from backseen.errors import TooLarge
from backseen.joining import closure, greatest_look, is_must
from backseen.looking import is_of_look
from backseen.machines import is_least, is_machine, least_of, takes, tree_of
from backseen.mirrors import (
    completed_by, renamed, replaced_back, rest_of, reversed_machine, reversed_rows, reversed_sample,
)
from backseen.papers import accepts_paper
from backseen.rounds import accepts_rows, rows_for
from backseen.sides import least_apart, verdict
from backseen.single import least_look
from backseen.wholes import closure_of
from backseen.words import is_sample
import oddities
import oracles
from oddities import EVEN, EVERY, NONE, chain, circle

chance = random.Random(158)
MACHINES = oracles.random_machines(158, 90, "ab", 5) + oracles.random_machines(159, 30, "abc", 4)
MACHINES += oracles.random_machines(160, 25, "a", 7) + [NONE, EVEN, EVERY, ("a", (), ())]
MACHINES += [closure_of(machine, 1) for machine in MACHINES[:40]]
LAST = ("ab", ((0, 1), (None, None)), (1,))


def few(machine, less=0):
    return oracles.all_words(machine[0], {1: 10, 2: 6, 3: 4, 4: 3}[len(machine[0])] - less)


def language(machine, words):
    return [word for word in words if takes(machine, word)]


def looks_of(machine):
    return [k for k in range(7) if is_of_look(machine, k)]


def raised(function, *arguments):
    try:
        function(*arguments)
    except TooLarge as error:
        return error.what
    return None


class Reversed(unittest.TestCase):
    def test_point_158_the_reversed_language(self):
        for machine in MACHINES:
            back = reversed_machine(machine)
            self.assertTrue(is_machine(back) and is_least(back))
            self.assertEqual(back[0], machine[0])
            for word in few(machine):
                self.assertIs(takes(back, word[::-1]), takes(machine, word))
            self.assertEqual(reversed_machine(least_of(machine)), back)
            self.assertEqual(reversed_machine(back), least_of(machine))

    def test_point_158_samples(self):
        for sample in oracles.random_samples(158, 60, "abc", 8, 6):
            back = reversed_sample("abc", sample)
            self.assertTrue(is_sample("abc", back))
            self.assertEqual(back, oracles.in_order(word[::-1] for word in sample))
            self.assertEqual(reversed_sample("abc", back), sample)
            tree = tree_of("abc", sample)
            self.assertEqual(reversed_machine(tree), least_of(tree_of("abc", back)))
        self.assertEqual(reversed_sample("ab", ()), ())
        self.assertEqual(reversed_sample("ab", ("", "a", "ab", "aab")), ("", "a", "ba", "baa"))

    def test_point_158_exactly_400_states_and_more(self):
        for many, told in ((398, None), (399, None), (400, None)):
            for machine in (circle("a", many), chain("ab", many)):
                self.assertEqual(raised(reversed_machine, machine), told)
                self.assertEqual(len(reversed_machine(machine)[1]), many)
        # Ahead of the last letters: the words whose n-th letter is an a have few states, read backward they have many.
        for many, told in ((7, None), (8, "states"), (9, "states"), (300, "states")):
            rows = tuple((at + 1,) * 2 for at in range(many)) + ((many + 1, None), (many + 1,) * 2)
            machine = ("ab", rows, (many + 1,))
            self.assertEqual(raised(reversed_machine, machine), told)
            if told is None:
                self.assertEqual(len(reversed_machine(machine)[1]), 2 ** (many + 1))

    def test_point_158_400_and_401_sets_of_states(self):
        told = {}
        for many in range(140, 150):
            machine = with_chain(7, many)
            sets = sets_of_states(machine)
            told[sets] = raised(reversed_machine, machine)
            if sets <= 400:
                self.assertEqual(len(reversed_machine(machine)[1]), sets)
        self.assertLessEqual({399, 400, 401, 402}, set(told))
        self.assertEqual({sets for sets in told if told[sets] is None}, {sets for sets in told if sets <= 400})
        self.assertEqual({sets for sets in told if told[sets] == "states"}, {sets for sets in told if sets > 400})

    def test_point_162_and_98_looks(self):
        seen = {}
        for machine in MACHINES:
            back = reversed_machine(machine)
            self.assertEqual(looks_of(back), looks_of(machine))
            # Read backward, a language can have more states than a least look is told for.
            if len(back[1]) <= 20:
                self.assertEqual(least_look(back), least_look(machine))
                seen[least_look(machine)] = True
        self.assertLessEqual({None, 0, 1, 2}, set(seen))

    def test_points_52_and_162_closures(self):
        for sample in oracles.random_samples(162, 50, "ab", 5, 6):
            back = reversed_sample("ab", sample)
            for k in (0, 1, 2, 12):
                self.assertEqual(closure("ab", back, k), reversed_machine(closure("ab", sample, k)))
            for word in oracles.all_words("ab", 4):
                self.assertIs(is_must("ab", back, 1, word[::-1]), is_must("ab", sample, 1, word))
                self.assertEqual(greatest_look("ab", back, word[::-1]), greatest_look("ab", sample, word))

    def test_points_109_and_110_sides(self):
        for _ in range(60):
            sample, outside = oracles.random_sample(chance, "ab", 4, 5), oracles.random_sample(chance, "ab", 3, 5)
            back, back_out = reversed_sample("ab", sample), reversed_sample("ab", outside)
            self.assertEqual(least_apart("ab", back, back_out), least_apart("ab", sample, outside))
            for k in (0, 1, 2):
                for word in oracles.all_words("ab", 3):
                    self.assertEqual(
                        verdict("ab", back, back_out, k, word[::-1]), verdict("ab", sample, outside, k, word),
                    )

    def test_point_163_languages_in_one_another_and_common_parts(self):
        told = {True: 0, False: 0}
        for machine in MACHINES[:60]:
            for other in MACHINES[60:75] + [machine, closure_of(machine, 0)]:
                if other[0] != machine[0]:
                    continue
                back, back_other = reversed_machine(machine), reversed_machine(other)
                lies = outside_word(machine, other) is None
                told[lies] += 1
                self.assertIs(outside_word(back, back_other) is None, lies)
                self.assertEqual(common(back, back_other), reversed_machine(common(machine, other)))
                self.assertEqual(union_of(back, back_other), reversed_machine(union_of(machine, other)))
            self.assertEqual(reversed_machine(complement_of(machine)), complement_of(reversed_machine(machine)))
        self.assertGreater(min(told.values()), 50)

    def test_point_177_counts_and_degrees(self):
        for machine in MACHINES:
            back, other = reversed_machine(machine), renamed(machine, "zyxw"[:len(machine[0])])
            for made in (back, other):
                self.assertEqual(growth_degree(made), growth_degree(machine))
                for length in (0, 1, 2, 5, 40):
                    self.assertEqual(count_at(made, length), count_at(machine, length))


class Rests(unittest.TestCase):
    def test_point_159_rests(self):
        for machine in MACHINES:
            for word in few(machine, 3):
                made = rest_of(machine, word)
                self.assertTrue(is_machine(made) and is_least(made))
                self.assertLessEqual(len(made[1]), len(machine[1]))
                told = [other for other in few(machine, 2) if takes(machine, word + other)]
                self.assertEqual(language(made, few(machine, 2)), told)
                self.assertEqual(rest_of(least_of(machine), word), made)

    def test_point_159_what_a_word_completes(self):
        for machine in MACHINES:
            for word in few(machine, 3):
                made = completed_by(machine, word)
                self.assertTrue(is_machine(made) and is_least(made))
                self.assertLessEqual(len(made[1]), len(machine[1]))
                told = [other for other in few(machine, 2) if takes(machine, other + word)]
                self.assertEqual(language(made, few(machine, 2)), told)
                self.assertEqual(completed_by(least_of(machine), word), made)

    def test_point_163_rests_of_rests(self):
        for machine in MACHINES[::2]:
            words = few(machine, 4)[:7]
            for u in words:
                for v in words:
                    self.assertEqual(rest_of(machine, u + v), rest_of(rest_of(machine, u), v))
                    self.assertEqual(completed_by(machine, u + v), completed_by(completed_by(machine, v), u))
                    self.assertEqual(
                        rest_of(completed_by(machine, v), u), completed_by(rest_of(machine, u), v),
                    )
                back = reversed_machine(machine)
                self.assertEqual(reversed_machine(completed_by(machine, u)), rest_of(back, u[::-1]))
            self.assertEqual(rest_of(machine, ""), least_of(machine))
            self.assertEqual(completed_by(machine, ""), least_of(machine))

    def test_point_164_the_empty_language(self):
        for machine in MACHINES:
            empty = (machine[0], (), ())
            back = reversed_machine(machine)
            for word in few(machine, 3):
                starts = any(takes(machine, word + other) for other in few(machine))
                if oracles.state_behind(machine, word) is None:
                    self.assertFalse(starts)
                    self.assertEqual(rest_of(machine, word), empty)
                else:
                    self.assertNotEqual(rest_of(machine, word), empty)
                ends = oracles.state_behind(back, word[::-1]) is not None
                self.assertEqual(completed_by(machine, word) != empty, ends)

    def test_point_162_and_98_looks(self):
        kept = 0
        for machine in MACHINES[::2]:
            least = least_look(machine)
            for word in few(machine, 4)[:7]:
                for made in (rest_of(machine, word), completed_by(machine, word)):
                    for k in looks_of(machine):
                        self.assertTrue(is_of_look(made, k))
                        kept += 1
                    if least is not None and least_look(made) is not None:
                        self.assertLessEqual(least_look(made), least)
        self.assertGreater(kept, 1000)

    def test_point_159_words_of_500_letters(self):
        machine = circle("ab", 400, (0, 150))
        self.assertEqual(rest_of(machine, "ab" * 250), least_of(circle("ab", 400, (50, 300))))
        self.assertEqual(completed_by(machine, "b" * 500), least_of(circle("ab", 400, (50, 300))))
        for function in (rest_of, completed_by):
            self.assertTrue(oddities.is_refused(function, (machine, "a" * 501), "word"))


class Renamed(unittest.TestCase):
    def test_point_160_renamed_letters(self):
        names_of = {1: ("a", "z", "q"), 2: ("ab", "ba", "zc", "cz", "bx"), 3: ("abc", "cab", "zqa")}
        for machine in MACHINES:
            for names in names_of[len(machine[0])]:
                made = renamed(machine, names)
                self.assertTrue(is_machine(made) and is_least(made))
                self.assertEqual(made[0], "".join(sorted(names)))
                self.assertEqual(len(made[1]), len(least_of(machine)[1]))
                for word in few(machine, 1):
                    other = "".join(names[machine[0].index(letter)] for letter in word)
                    self.assertIs(takes(made, other), takes(machine, word))
                back = "".join(machine[0][names.index(letter)] for letter in made[0])
                self.assertEqual(renamed(made, back), least_of(machine))
                self.assertEqual(reversed_machine(made), renamed(reversed_machine(machine), names))
                self.assertEqual(renamed(least_of(machine), names), made)
                self.assertEqual(looks_of(made), looks_of(machine))
                self.assertEqual(least_look(made), least_look(machine))

    def test_point_160_four_letters(self):
        machine = ("abcd", ((1, 2, None, 0), (None, 0, 2, None), (None, None, None, 1)), (1, 2))
        made = renamed(machine, "zxya")
        self.assertEqual(made[0], "axyz")
        for word in oracles.all_words("abcd", 4):
            other = "".join("zxya"["abcd".index(letter)] for letter in word)
            self.assertIs(takes(made, other), takes(machine, word))

    def test_point_165_names_in_any_order_and_wrong_ones(self):
        wrong = {
            "machine": oddities.MACHINES + [chain("a", 401)],
            "names": [
                "", "a", "aa", "aba", "aab", "abab", "abc", "aB", "a1", "a ", None, 0, ("a", "b"), ["a", "b"], "zz",
                "\u00e9a",
            ],
        }
        oddities.check_wrong(self, renamed, ("machine", "names"), (LAST, "zc"), wrong)
        for machine, names in ((("abc", (), ()), ("ab", "abcd", "aab")), (("a", ((0,),), (0,)), ("", "ab"))):
            for other in names:
                self.assertTrue(oddities.is_refused(renamed, (machine, other), "names"))
        for names in ("ab", "ba", "za", "yz"):
            self.assertEqual(renamed(NONE, names), ("".join(sorted(names)), (), ()))


class Replaced(unittest.TestCase):
    def tries(self, least=0, many=3, most=3):
        for machine in MACHINES[::2]:
            for letters in ("a", "xy", "abc", "wxyz"):
                for _ in range(many if len(letters) < 4 else 1):
                    words = tuple(
                        "".join(chance.choice(machine[0]) for _ in range(chance.randint(least, most))) for _ in letters
                    )
                    yield machine, letters, words

    def replacement(self, letters, words, word):
        return "".join(words[letters.index(letter)] for letter in word)

    def test_point_161_replaced_backward(self):
        for machine, letters, words in self.tries():
            made = replaced_back(machine, letters, words)
            self.assertTrue(is_machine(made) and is_least(made))
            self.assertEqual(made[0], letters)
            self.assertLessEqual(len(made[1]), len(machine[1]))
            self.assertEqual(replaced_back(least_of(machine), letters, words), made)
            for word in oracles.all_words(letters, {1: 6, 2: 4, 3: 3, 4: 2}[len(letters)]):
                self.assertIs(takes(made, word), takes(machine, self.replacement(letters, words, word)))

    def test_point_161_empty_words_and_words_of_24_letters(self):
        machine = circle("ab", 48, (0, 24))
        made = replaced_back(machine, "xyz", ("ab" * 12, "", "b"))
        self.assertEqual(made, replaced_back(circle("ab", 24), "xyz", ("", "", "a")))
        self.assertEqual(replaced_back(EVEN, "ab", ("", "")), ("ab", ((0, 0),), (0,)))
        self.assertEqual(replaced_back(LAST, "ab", ("", "")), NONE)
        self.assertEqual(replaced_back(NONE, "xy", ("", "a")), ("xy", (), ()))

    def test_point_162_looks(self):
        tried, seen = 0, {}
        for k in range(1, 7):
            # The words of k - 1 and of k letters a.
            machine = chain("a", k + 1, (k - 1, k))
            self.assertEqual(least_look(machine), k)
            for d in (1, 2, 3):
                made = replaced_back(machine, "xy", ("a" * d, "a" * (d + 1)))
                for j in range(7):
                    if j * d >= k:
                        self.assertTrue(is_of_look(made, j))
                        seen[j < k] = True
        for machine, letters, words in self.tries(1, 2):
            made = replaced_back(machine, letters, words)
            d = min(map(len, words))
            looks = looks_of(machine)
            for k in looks[:1]:
                for j in range(7):
                    if j * d >= k:
                        self.assertTrue(is_of_look(made, j))
                        tried += 1
                if least_look(made) is not None:
                    self.assertLessEqual(least_look(made), k)
        self.assertGreater(tried, 1000)
        self.assertEqual(set(seen), {True, False})
        for machine, letters, words in self.tries():
            if is_of_look(machine, 0):
                self.assertTrue(is_of_look(replaced_back(machine, letters, words), 0))

    def test_point_163_by_itself_and_twice(self):
        for machine in MACHINES:
            self.assertEqual(replaced_back(machine, machine[0], tuple(machine[0])), least_of(machine))
        for machine, letters, words in self.tries(0, 2):
            others = tuple("".join(chance.choice(letters) for _ in range(chance.randint(0, 3))) for _ in "pq")
            both = tuple(self.replacement(letters, words, other) for other in others)
            twice = replaced_back(replaced_back(machine, letters, words), "pq", others)
            self.assertEqual(twice, replaced_back(machine, "pq", both))

    def test_point_165_wrong_arguments(self):
        wrong = {
            "machine": oddities.MACHINES + [chain("a", 401)], "letters": oddities.LETTERS,
            "words": [
                (), ("a",), ("a", "b", "a"), ["a", "b"], ("a", "c"), ("x", "a"), ("a", None), ("a", ("b",)), "ab",
                None, 0,
                ("a" * 25, "a"), ("a", "b" * 25), (None, "a"), ("a", 1), ("a", True),
            ],
        }
        names = ("machine", "letters", "words")
        oddities.check_wrong(self, replaced_back, names, (LAST, "xy", ("a", "")), wrong)
        self.assertTrue(oddities.is_refused(replaced_back, (LAST, "xyz", ("a", "b")), "words"))
        # The words are over the letters of the machine, not over the new ones.
        self.assertTrue(oddities.is_refused(replaced_back, (LAST, "xy", ("x", "y")), "words"))
        self.assertEqual(replaced_back(LAST, "xy", ("a" * 24, "b" * 24)), ("xy", (), ()))


class Rows(unittest.TestCase):
    def words_of(self, rows):
        """The words of the rows, told plainly."""
        words = []
        for row in rows:
            if row[0] == "seen":
                words.append(row[1])
            else:
                _, a, b, c, i = row
                ahead = words[b][:len(words[b]) - len(words[a][i:])]
                words.append(ahead + words[c][i:])
        return words

    def test_point_162_reversed_rows(self):
        tried = 0
        for letters, sample in [("abc", sample) for sample in oracles.random_samples(161, 25, "abc", 6, 3)] + [
            ("ab", sample) for sample in oracles.random_samples(163, 50, "ab", 5, 4)
        ]:
            for k in (0, 1, 2):
                words = [word for word in few((letters,), 1) if is_must(letters, sample, k, word)]
                chance.shuffle(words)
                for word in sorted(words, key=lambda other: other in sample)[:7]:
                    rows = rows_for(letters, sample, k, word)
                    if chance.random() < 0.5:
                        rows = rows[:1] + tuple(shifted(row) for row in rows)
                    self.assertIs(accepts_rows(letters, sample, k, word, rows), True)
                    self.check(letters, sample, k, word, rows)
                    tried += len(rows) > 4
        self.assertGreater(tried, 50)

    def check(self, letters, sample, k, word, rows):
        back = reversed_rows(letters, sample, k, word, rows)
        words = self.words_of(rows)
        plain = tuple(
            ("seen", row[1][::-1]) if row[0] == "seen"
            else ("by", row[1], row[3], row[2], len(words[row[1]]) - row[4] + k)
            for row in rows
        )
        self.assertEqual(back, plain)
        other = reversed_sample(letters, sample)
        self.assertIs(accepts_rows(letters, other, k, word[::-1], back), True)
        self.assertEqual(self.words_of(back), [made[::-1] for made in words])
        self.assertEqual(reversed_rows(letters, other, k, word[::-1], back), rows)

    def test_point_162_rows_by_whomever(self):
        sample = ("", "aa", "aaa")
        for k in (0, 1, 2):
            tried = 0
            for a in range(3):
                for b in range(3):
                    for c in range(3):
                        for i in range(-1, 5):
                            rows = tuple(("seen", word) for word in sample) + (("by", a, b, c, i),)
                            for word in oracles.all_words("a", 6):
                                if accepts_rows("a", sample, k, word, rows):
                                    self.check("a", sample, k, word, rows)
                                    tried += 1
                                else:
                                    self.assertTrue(
                                        oddities.is_refused(reversed_rows, ("a", sample, k, word, rows), "rows"),
                                    )
            self.assertGreater(tried, 3)

    def test_point_165_wrong_arguments(self):
        rows = (("seen", "ab"), ("seen", "bb"), ("seen", "aba"), ("by", 0, 1, 2, 2))
        wrong = {
            "letters": oddities.LETTERS, "sample": oddities.SHORT_SAMPLES, "k": oddities.LOOKS,
            "word": oddities.WORDS + ["a" * 25],
            "rows": [
                None, (), rows[:3], rows[1:], rows[::-1], list(rows), rows + (None,), (list(rows[0]),) + rows[1:],
                rows[:3] + (("by", 0, 1, 2, 1),), rows[:3] + (("by", 1, 0, 2, 2),), rows[:3] + (("by", 0, 1, 3, 2),),
                rows[:3] + (("by", 0, 1, 2, True),), (("seen", "bba"),), rows + rows[:1], "", 0,
                (("seen", "ab"),) * 2501,
            ],
        }
        names = ("letters", "sample", "k", "word", "rows")
        right = ("ab", ("ab", "bb", "aba"), 1, "bba", rows)
        oddities.check_wrong(self, reversed_rows, names, right, wrong)
        for odd in oddities.oddities():
            for at in range(4):
                other = rows[:at] + (odd,) + rows[at + 1:]
                self.assertTrue(oddities.is_refused(reversed_rows, right[:4] + (other,), "rows"))
        self.assertEqual(reversed_rows(*right)[3], ("by", 0, 2, 1, 1))
        # Evidence of words that must not be in there is none; evidence for another word is none for this one.
        self.assertTrue(oddities.is_refused(reversed_rows, right[:3] + ("ab", rows), "rows"))
        self.assertTrue(oddities.is_refused(reversed_rows, right[:2] + (2, "bba", rows), "rows"))

    def test_point_162_long_words(self):
        sample = ("", "a" * 11, "a" * 12)
        for many in (0, 1, 13, 24):
            self.check("a", sample, 0, "a" * many, rows_for("a", sample, 0, "a" * many))
        rows = (("seen", ""),) * 2500
        self.assertEqual(reversed_rows("a", sample, 0, "", rows), rows)


class Wrong(unittest.TestCase):
    def test_point_165_wrong_arguments(self):
        wrong = {
            "machine": oddities.MACHINES + [chain("a", 401)], "letters": oddities.LETTERS, "sample": oddities.SAMPLES,
            "word": oddities.ASKED_WORDS,
        }
        many = ("ab", tuple((at + 1,) * 2 for at in range(300)) + ((301, None), (301,) * 2), (301,))
        for machine in (EVEN, many):
            for function in (rest_of, completed_by):
                oddities.check_wrong(self, function, ("machine", "word"), (machine, "b"), wrong)
        oddities.check_wrong(self, reversed_machine, ("machine",), (EVEN,), wrong)
        oddities.check_wrong(self, reversed_sample, ("letters", "sample"), ("ab", ("a", "b")), wrong)

    def test_point_166_example(self):
        self.assertEqual(reversed_machine(LAST), ("ab", ((None, 1), (1, None)), (1,)))
        self.assertEqual(rest_of(LAST, "aa"), LAST)
        self.assertEqual(rest_of(LAST, "b"), ("ab", ((None, None),), (0,)))
        self.assertEqual(rest_of(LAST, "ba"), NONE)
        for word in ("b", "ab"):
            self.assertEqual(completed_by(LAST, word), ("ab", ((0, None),), (0,)))
        self.assertEqual(completed_by(LAST, "a"), NONE)
        self.assertEqual(renamed(LAST, "zc"), ("cz", ((1, 0), (None, None)), (1,)))

    def test_point_158_large_samples(self):
        words = oracles.in_order({"".join(chance.choice("ab") for _ in range(10)) for _ in range(240)})[:200]
        self.assertEqual(reversed_sample("ab", words), oracles.in_order(word[::-1] for word in words))
        self.assertEqual(reversed_sample("ab", ("ab" * 1000,)), ("ba" * 1000,))
        self.assertTrue(accepts_paper("ab", ("ba",), 0, "ba", ("must", (), ("", "b", "ba"))))


def shifted(row):
    """The row behind one more row."""
    return row if row[0] == "seen" else ("by", row[1] + 1, row[2] + 1, row[3] + 1, row[4])


def with_chain(ahead, many):
    """The words over "ab" whose letter behind so many is an a, and the word of so many letters c."""
    rows = [(at + 1, at + 1, None) for at in range(ahead)] + [(ahead + 1, None, None), (ahead + 1, ahead + 1, None)]
    rows[0] = rows[0][:2] + (len(rows),)
    rows += [(None, None, ahead + 2 + at) for at in range(1, many)] + [(None,) * 3]
    return oracles.machine_of("abc", rows, {ahead + 1, len(rows) - 1})


def sets_of_states(machine):
    """How many sets of states there are that are not empty, from which words read backward come to the ends."""
    letters, rows, ends = machine
    met, queue = {frozenset(ends)}, [frozenset(ends)]
    for states in queue:
        for at in range(len(letters)):
            ahead = frozenset(state for state, row in enumerate(rows) if row[at] in states)
            if ahead and ahead not in met:
                met.add(ahead)
                queue.append(ahead)
    return len(met)


if __name__ == "__main__":
    unittest.main()
