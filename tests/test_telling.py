"""Telling languages: first samples, samples that tell, needed words (points 132 to 136, 139 to 141, 144 and 145)."""

import itertools
import random
import unittest

from backseen.building import complement_of
from backseen.comparing import common, telling_word
from backseen.errors import NotPossible, TooLarge
from backseen.joining import closure, is_must
from backseen.looked import looked_machine, looked_states
from backseen.looking import has_property, is_of_look
from backseen.machines import first_words, is_least, last_words, least_of, takes, tree_of
from backseen.telling import (
    accepts_needed, first_sample, is_needed, needed_paper, needed_words, telling_number, tells, thinned,
)
from backseen.wholes import closure_of
import oddities
import oracles
from oddities import EVEN, EVERY, NONE, chain, circle

chance = random.Random(132)
LOOKS = (0, 1, 2, 3)
POOL = oracles.random_machines(132, 60, "ab", 4) + oracles.random_machines(133, 10, "abc", 3)
POOL += oracles.random_machines(134, 20, "a", 6)
MACHINES = POOL + [closure_of(machine, k) for machine in POOL for k in (0, 1, 2)] + [NONE, EVEN, EVERY]
TOLD = [(machine, k) for machine in MACHINES for k in LOOKS if is_of_look(machine, k)]
chance.shuffle(TOLD)
ALL_A = ("a", ((0,),), (0,))


def few(machine):
    return oracles.all_words(machine[0], {1: 12, 2: 5, 3: 3, 4: 3}[len(machine[0])])


def words_of(machine):
    return [word for word in few(machine) if takes(machine, word)]


def without(machine, word):
    return common(machine, complement_of(tree_of(machine[0], (word,))))


def raised(function, *arguments):
    try:
        function(*arguments)
    except (NotPossible, TooLarge) as error:
        return getattr(error, "why", None) or error.what
    return None


def plain_step(machine, k, word, value):
    """Whether three words and an integer are those of point 141, told plainly."""
    _, one, two, three, i = value
    if not all(takes(machine, other) and other != word for other in (one, two, three)) or not k <= i <= len(one):
        return False
    h, behind = one[:i], one[i:]
    if not three.startswith(h) or not two.endswith(behind):
        return False
    ahead = two[:len(two) - len(behind)]
    return oracles.alike(ahead, h, k) and ahead + three[i:] == word


class First(unittest.TestCase):
    def test_point_133_the_telling_number(self):
        found = {}
        for machine, k in TOLD:
            _, rows, ends = looked_machine(machine, k)
            edges = [to for row in rows for to in row if to is not None]
            number = len(edges) + len(ends) - len(rows) + 1 if rows else 0
            self.assertEqual(telling_number(machine, k), number)
            found[number] = True
        self.assertGreater(len(found), 10)
        for k in range(13):
            self.assertEqual(telling_number(NONE, k), 0)

    def test_point_134_the_first_sample_by_its_definition(self):
        for machine, k in TOLD:
            words = []
            for word in words_of(machine):
                if not is_must(machine[0], tuple(words), k, word):
                    words.append(word)
            found = first_sample(machine, k)
            self.assertIs(type(found), tuple)
            self.assertEqual([word for word in found if word in few(machine)], words)
            self.assertEqual(list(found), sorted(found, key=oracles.place))

    def test_point_135_the_first_sample_by_the_looked_states(self):
        for machine, k in TOLD:
            looked = looked_machine(machine, k)
            letters, rows, ends = looked
            x, y = first_words(looked), last_words(looked)
            words = [x[end] for end in ends]
            for s, row in enumerate(rows):
                words += [
                    x[s] + a + y[t] for a, t in zip(letters, row) if t is not None and x[s] + a != x[t]
                ]
            self.assertEqual(first_sample(machine, k), oracles.in_order(words))
            self.assertEqual(len(words), len(set(words)))
            self.assertEqual(len(words), telling_number(machine, k))

    def test_point_136_it_tells_and_no_word_can_be_left_out(self):
        for machine, k in TOLD[:250]:
            found = first_sample(machine, k)
            self.assertIs(tells(machine, k, found), True)
            self.assertEqual(closure(machine[0], found, k), least_of(machine))
            for at in range(len(found)):
                self.assertIs(tells(machine, k, found[:at] + found[at + 1:]), False)

    def test_point_136_no_telling_set_has_less(self):
        tried = 0
        for machine, k in TOLD:
            first, words = first_sample(machine, k), words_of(machine)
            for _ in range(4):
                sample = oracles.in_order(chance.sample(words, min(len(words), chance.randint(1, 9))) if words else ())
                if not tells(machine, k, sample):
                    continue
                tried += 1
                self.assertGreaterEqual(len(sample), len(first))
                self.assertGreaterEqual(sum(map(len, sample)), sum(map(len, first)))
                for one, other in zip(sample[::-1], first[::-1]):
                    self.assertGreaterEqual(oracles.place(one), oracles.place(other))
        self.assertGreater(tried, 100)
        self.assertTrue(tells(ALL_A, 0, ("", "a")) and tells(ALL_A, 0, ("", "aa", "aaaaa")))
        for pair in itertools.combinations(("", "aa", "aaaaa"), 2):
            self.assertFalse(tells(ALL_A, 0, pair))

    def test_point_132_sets_that_tell(self):
        told = {True: 0, False: 0}
        for machine in MACHINES[::3]:
            for k in (0, 1, 2):
                words = few(machine)
                for _ in range(4):
                    sample = oracles.in_order(chance.sample(words, min(len(words), chance.randint(0, 6))))
                    good = closure(machine[0], sample, k) == least_of(machine)
                    told[good] += 1
                    self.assertIs(tells(machine, k, sample), good)
                    made = closure(machine[0], sample, k)
                    self.assertIs(tells(made, k, sample), True)
                    more = oracles.in_order(sample + (words[-1],))
                    self.assertIs(tells(made, k, more), takes(made, words[-1]))
                    told[True] += 1
        self.assertGreater(min(told.values()), 100)
        for k in range(13):
            self.assertIs(tells(NONE, k, ()), True)
            self.assertIs(tells(NONE, k, ("",)), False)
            self.assertIs(tells(EVERY, k, ()), False)

    def test_point_132_machines_of_one_language(self):
        for machine, k in TOLD[:150]:
            least = least_of(machine)
            for function in (telling_number, first_sample, needed_words):
                self.assertEqual(function(machine, k), function(least, k))
            sample = first_sample(machine, k)
            self.assertEqual((tells(least, k, sample), thinned(least, k, sample)), (True, sample))
        many = circle("a", 12, (0, 2, 4, 6, 8, 10))
        self.assertEqual(first_sample(many, 0), first_sample(circle("a", 2), 0))
        self.assertEqual(needed_paper(many, 1, "")[0], needed_paper(circle("a", 2), 1, "")[0])


class Thinned(unittest.TestCase):
    def test_point_139_thinned_samples(self):
        left_out = 0
        for machine, k in TOLD[:250]:
            first, words = first_sample(machine, k), words_of(machine)
            more = oracles.in_order(first + tuple(chance.sample(words, min(4, len(words)))))
            self.assertEqual(thinned(machine, k, more), first)
            sample = oracles.in_order(chance.sample(words, min(len(words), 10)))
            if not tells(machine, k, sample):
                self.assertEqual(raised(thinned, machine, k, sample), "sample")
                continue
            kept = list(sample)
            for word in sample[::-1]:
                rest = [other for other in kept if other != word]
                if closure(machine[0], tuple(rest), k) == least_of(machine):
                    kept = rest
            found = thinned(machine, k, sample)
            self.assertIs(type(found), tuple)
            self.assertEqual(found, tuple(kept))
            left_out += len(found) < len(sample)
            self.assertIs(tells(machine, k, found), True)
        self.assertGreater(left_out, 10)
        self.assertEqual(thinned(ALL_A, 0, ("", "aa", "aaaaa")), ("", "aa", "aaaaa"))
        self.assertEqual(thinned(ALL_A, 0, ("", "a", "aa", "aaa", "aaaa")), ("", "a"))

    def test_points_139_and_144_large_samples(self):
        sample = tuple("a" * many for many in range(63))
        self.assertEqual(thinned(ALL_A, 0, sample), ("", "a"))
        self.assertEqual(thinned(ALL_A, 12, sample), tuple("a" * many for many in range(14)))
        words = oracles.in_order({"".join(chance.choice("ab") for _ in range(10)) for _ in range(230)})[:200]
        self.assertEqual(len(words), 200)
        # Words of fewer than k letters all have to be there.
        self.assertEqual(thinned(closure("ab", words[:60], 12), 12, words[:60]), words[:60])
        # The closure has more than 400 states: it tells another language, and this is no error.
        self.assertRaises(TooLarge, closure, "ab", ("a" * 1000,), 12)
        for sample in (words, ("a" * 1000,), ("a" * 999, "a" * 1000)):
            self.assertIs(tells(EVERY, 12, sample), False)
            self.assertEqual(raised(thinned, EVERY, 12, sample), "sample")


class Needed(unittest.TestCase):
    def test_point_140_needed_words(self):
        told = {True: 0, False: 0}
        for machine, k in TOLD[:250]:
            needed = needed_words(machine, k)
            self.assertIs(type(needed), tuple)
            self.assertEqual(list(needed), sorted(needed, key=oracles.place))
            self.assertLessEqual(set(needed), set(first_sample(machine, k)))
            for word in words_of(machine)[:20]:
                good = is_of_look(without(machine, word), k)
                told[good] += 1
                self.assertIs(is_needed(machine, k, word), good)
                self.assertIs(word in needed, good)
                if good and k < 3:
                    self.assertIs(is_needed(machine, k + 1, word), True)
        self.assertGreater(min(told.values()), 200)

    def test_point_140_no_set_without_a_needed_word_tells(self):
        for machine, k in TOLD[:150]:
            words = words_of(machine)[:40]
            for word in needed_words(machine, k):
                if word in words:
                    rest = tuple(other for other in words if other != word)
                    self.assertIs(tells(machine, k, rest), False)

    def test_point_141_evidence_of_exactly_one_kind(self):
        told = {"needed": 0, "not needed": 0}
        for machine, k in TOLD[:300]:
            for word in words_of(machine)[:12]:
                paper = needed_paper(machine, k, word)
                told[paper[0]] += 1
                self.assertIs(accepts_needed(machine, k, word, paper), True)
                self.assertEqual(paper[0] == "needed", is_needed(machine, k, word))
                if paper[0] == "needed":
                    self.assertTrue(has_property(paper[1], k))
                    self.assertIsNone(telling_word(paper[1], without(machine, word)))
                else:
                    self.assertTrue(plain_step(machine, k, word, paper))
                self.assertIs(
                    accepts_needed(machine, k, word, ("needed", without(machine, word))), paper[0] == "needed",
                )
        self.assertGreater(min(told.values()), 200)

    def test_points_140_and_141_languages_of_one_word(self):
        for word in ("", "a", "abba", "b" * 399):
            machine = tree_of("ab", (word,))
            for k in (0, 1, 12):
                self.assertIs(is_needed(machine, k, word), True)
                self.assertEqual(needed_words(machine, k), (word,))
                self.assertEqual(needed_paper(machine, k, word), ("needed", NONE))
                self.assertIs(accepts_needed(machine, k, word, ("needed", NONE)), True)
                self.assertIs(accepts_needed(machine, k, word, ("needed", ("ac", (), ()))), False)
                self.assertIs(accepts_needed(machine, k, word, ("needed", machine)), False)

    def test_point_141_steps_where_the_first_other_words_make_the_word_itself(self):
        # Between the empty word and a stands a loop: other beginnings and rests of aa make aa again.
        for many in range(1, 6):
            for k in range(4):
                for machine in (ALL_A, circle("a", 2), circle("a", 3)):
                    word = "a" * (many * len(machine[1]))
                    paper = needed_paper(machine, k, word)
                    self.assertIs(accepts_needed(machine, k, word, paper), True)
                    if paper[0] == "not needed":
                        self.assertTrue(plain_step(machine, k, word, paper))

    def test_point_141_all_small_steps(self):
        told = {True: 0, False: 0}
        for machine, k in TOLD[:6] + [(ALL_A, 0), (ALL_A, 1), (EVEN, 0)]:
            pool = words_of(machine)[:7] + few(machine)[1:3]
            for word in words_of(machine)[:4]:
                for one, two, three in itertools.product(pool, repeat=3):
                    for i in range(-1, len(one) + 2):
                        value = ("not needed", one, two, three, i)
                        good = plain_step(machine, k, word, value)
                        told[good] += 1
                        self.assertIs(accepts_needed(machine, k, word, value), good)
        self.assertGreater(min(told.values()), 200)

    def test_point_141_steps_with_one_thing_changed(self):
        right = ("not needed", "aaa", "aa", "aa", 2)

        def judge(*value):
            return accepts_needed(ALL_A, 1, "a", value)

        self.assertIs(judge(*right), True)
        for value in (
            ("not needed", "aaa", "aa", "aa", 1), ("not needed", "aaa", "aa", "aa", 3),
            ("not needed", "aaa", "aa", "aa", 0),
            ("not needed", "aaa", "aa", "aa", True), ("not needed", "aaa", "aa", "aa", 2.0),
            ("not needed", "aaa", "aa", "aa", None),
            ("not needed", "a", "aa", "aa", 1), ("not needed", "aaa", "a", "aa", 2),
            ("not needed", "aaa", "aa", "a", 2),
            ("not needed", "aaa", "aa", "aaa", 2), ("not needed", "aab", "aa", "aa", 2),
            ("not needed", "aaa", "aa", "aa"),
            ("not needed", "aaa", "aa", "aa", 2, 2), ("needed", "aaa", "aa", "aa", 2),
            ("Not needed", "aaa", "aa", "aa", 2),
            list(right), ("not needed", ("aaa",), "aa", "aa", 2), ("not needed", None, "aa", "aa", 2),
            ("not needed", ALL_A),
            (None, "aaa", "aa", "aa", 2), ("not needed", "aaa", "aa", "aa", 10 ** 30),
            ("not needed", "aaa", "aa", "aa", -1),
        ):
            self.assertIs(accepts_needed(ALL_A, 1, "a", value), False, value)
        for many in (500, 501, 5000):
            value = ("not needed", "a" * (many + 1), "a" * 2, "a" * many, many)
            self.assertIs(judge(*value), True)
        self.assertIs(accepts_needed(ALL_A, 1, "aa", right), False)
        self.assertIs(accepts_needed(ALL_A, 2, "a", right), False)
        self.assertIs(accepts_needed(ALL_A, 0, "a", right), True)

    def test_point_141_machines_by_whomever(self):
        told = {True: 0, False: 0}
        unlike = 0
        for machine, k in TOLD[:200]:
            for word in words_of(machine)[:5]:
                rest = without(machine, word)
                for value in (looked_machine(rest, k), looked_machine(rest, k + 1), machine, closure_of(rest, k), NONE):
                    good = value[0] == machine[0] and has_property(value, k) and telling_word(value, rest) is None
                    told[good] += 1
                    unlike += good and not is_least(value)
                    self.assertIs(accepts_needed(machine, k, word, ("needed", value)), good)
        self.assertGreater(min(told.values()), 100)
        self.assertGreater(unlike, 20)
        made = needed_paper(ALL_A, 1, "")[1]
        self.assertEqual(made, ("a", ((1,), (1,)), (1,)))
        for value in (
            ("needed", list(made)), ("needed", made, ()), ("needed",), ["needed", made], ("not needed", made),
            ("Needed", made),
            (None, made), ("needed", ("ab", ((1, None), (1, None)), (1,))), ("needed", ALL_A),
            ("needed", ("a", (), ())), made,
        ):
            self.assertIs(accepts_needed(ALL_A, 1, "", value), False)
        # Not least and without the property, though its language is of the look.
        tree = tree_of("ab", ("a", "b"))
        machine = least_of(tree_of("ab", ("a", "b", "ab")))
        self.assertIs(is_of_look(machine, 1) and is_needed(machine, 1, "ab"), True)
        self.assertIs(accepts_needed(machine, 1, "ab", ("needed", tree)), True)
        one = ("ab", ((1, 2), (None, None), (None, None)), (1, 2))
        either = least_of(one)
        self.assertEqual(needed_paper(tree_of("ab", ("", "a", "b")), 1, "")[0], "needed")
        self.assertIs(accepts_needed(tree_of("ab", ("", "a", "b")), 1, "", ("needed", one)), True)
        self.assertIs(accepts_needed(tree_of("ab", ("", "a", "b")), 1, "", ("needed", either)), True)

    def test_points_141_and_8_values_of_any_kind(self):
        names = ("needed", "not needed")
        for machine, k, word in ((ALL_A, 1, "a"), (ALL_A, 1, ""), (EVEN, 0, "aba")):
            more = [("needed", NONE), ("needed", EVERY), ("not needed", "", "", "", 0), ("not needed",) + ("",) * 4]
            oddities.check_judge(self, lambda value: accepts_needed(machine, k, word, value), more, names)
        right = ("not needed", "aaa", "aa", "aa", 2)
        for odd in oddities.oddities():
            for at in range(5):
                self.assertIs(accepts_needed(ALL_A, 1, "a", right[:at] + (odd,) + right[at + 1:]), False)

    def test_point_145_example(self):
        self.assertEqual(looked_states(ALL_A, 1), ((0, ""), (0, "a")))
        self.assertEqual((telling_number(ALL_A, 1), first_sample(ALL_A, 1)), (3, ("", "a", "aa")))
        self.assertEqual([is_needed(ALL_A, 1, "a" * many) for many in range(5)], [True] + [False] * 4)
        self.assertEqual((telling_number(EVEN, 0), first_sample(EVEN, 0)), (4, ("", "b", "aa", "aba")))
        self.assertEqual(needed_words(ALL_A, 0), ())


class Errors(unittest.TestCase):
    def functions(self, k, word, sample):
        return [
            (telling_number, k), (first_sample, k), (thinned, k, sample), (is_needed, k, word), (needed_words, k),
            (needed_paper, k, word), (accepts_needed, k, word, None), (accepts_needed, k, word, ("needed", NONE)),
        ]

    def told(self, machine, k, word, sample=()):
        """The words with which the functions refuse a machine, each by its name."""
        found = {}
        for function, *rest in self.functions(k, word, sample):
            found.setdefault(function.__name__, set()).add(raised(function, machine, *rest))
        return {name: words.pop() for name, words in found.items() if len(words) == 1}

    def test_point_144_languages_that_are_not_of_the_look(self):
        names = (
            "telling_number", "first_sample", "thinned", "is_needed", "needed_words", "needed_paper", "accepts_needed",
        )
        for k in (0, 1, 5, 12):
            # Two ends and looks that are missing; the words handed in are in the language, or are not.
            machine = chain("ab", k + 2, (k, k + 1))
            self.assertFalse(is_of_look(machine, k))
            for word in ("a" * k, "b"):
                self.assertEqual(self.told(machine, k, word), dict.fromkeys(names, "look"))
            self.assertIs(tells(machine, k, ("a" * k,)), False)
            self.assertIs(tells(machine, k, ("a" * k, "a" * (k + 1))), False)
        # More than 400 looked states, and not of the look: the look comes first.
        large = circle("a", 400, (0, 1))
        self.assertEqual(self.told(large, 12, "b" * 0), dict.fromkeys(names, "look"))

    def test_point_144_more_than_400_looked_states(self):
        for k in (0, 1, 12):
            fit, large = circle("a", 400 - k), circle("a", 400 - k + 1)
            self.assertEqual(len(looked_states(fit, k)), 400)
            self.assertEqual(telling_number(fit, k), 2 if k == 0 else 3)
            if k == 0:
                continue
            told = self.told(large, k, "")
            self.assertEqual(
                told, {
                    "telling_number": "looked", "first_sample": "looked", "needed_words": "looked", "thinned": "sample",
                    "is_needed": None, "needed_paper": "states" if k == 1 else None, "accepts_needed": None,
                },
            )
            self.assertIs(is_needed(large, k, ""), True)
            if k > 1:
                self.assertIs(accepts_needed(large, k, "", needed_paper(large, k, "")), True)
            self.assertIs(tells(large, k, ("",)), False)
            sample = ("", "a" * (401 - k), "a" * (2 * (401 - k)))
            self.assertIs(tells(large, k, sample), True)
            self.assertEqual(thinned(large, k, sample), sample)

    def test_point_144_looked_states_come_ahead_of_words(self):
        for k, told in ((0, None), (6, "words"), (7, "words"), (8, "looked"), (12, "looked")):
            self.assertEqual(raised(first_sample, EVERY, k), told)
            self.assertEqual(raised(needed_words, EVERY, k), told)
            self.assertEqual(raised(telling_number, EVERY, k), told if told == "looked" else None)

    def test_point_144_words_that_are_not_in_the_language(self):
        for machine, k, word in ((EVEN, 0, "a"), (ALL_A, 3, ""), (NONE, 0, "")):
            out = not takes(machine, word)
            for call in ((is_needed, k, word), (needed_paper, k, word), (accepts_needed, k, word, None)):
                self.assertEqual(raised(call[0], machine, *call[1:]), "word" if out else None)
            self.assertEqual(raised(accepts_needed, machine, k, word, oddities.nested(tuple)), "word" if out else None)

    def test_point_144_first_samples_of_200_words_and_more(self):
        for more, told in ((0, None), (1, "words")):
            machine = self.many_words(200 + more)
            self.assertEqual(telling_number(machine, 12), 200 + more)
            self.assertLessEqual(sum(map(len, self.words_told(machine, 12))), 2000)
            self.assertEqual(raised(first_sample, machine, 12), told)
            self.assertEqual(raised(needed_words, machine, 12), told)
            if told is None:
                self.assertEqual(len(first_sample(machine, 12)), 200)
                self.assertEqual(len(needed_words(machine, 12)), 200)
                self.assertIs(tells(machine, 12, first_sample(machine, 12)), True)

    def many_words(self, many):
        """A language of so many words of few letters."""
        words = oracles.all_words("ab", 6) + ["a" * 7 + "b" * at for at in range(5)] + [
            "b" + word for word in oracles.all_words("ab", 6)[63:] + oracles.all_words("ab", 7)[127:]
        ]
        words = oracles.in_order(words)[:many]
        self.assertEqual(len(words), many)
        rows, number = [], {word: at for at, word in enumerate(oracles.beginnings(words))}
        for word in number:
            rows.append(tuple(number.get(word + letter) for letter in "ab"))
        return oracles.machine_of("ab", rows, {number[word] for word in words})

    def test_point_144_first_samples_of_2000_letters_and_more(self):
        # On a circle each edge beside the way with one letter makes one word of as many letters as there are states.
        for many, beside, told in ((40, 49, None), (69, 28, "words")):
            rows = [
                tuple(
                    (at + 1) % many if letter == 0 or at + (letter - 1) * many < beside else None for letter in range(3)
                )
                for at in range(many)
            ]
            machine = oracles.machine_of("abc", rows, {0})
            first = oracles.in_order(self.words_told(machine, 0))
            self.assertEqual(sum(map(len, first)), 2000 + (told is not None))
            self.assertLess(len(first), 200)
            self.assertEqual(telling_number(machine, 0), len(first))
            self.assertEqual(raised(first_sample, machine, 0), told)
            self.assertEqual(raised(needed_words, machine, 0), told)
            if told is None:
                self.assertEqual(first_sample(machine, 0), first)
                self.assertIs(tells(machine, 0, first), True)
                self.assertEqual(thinned(machine, 0, first), first)

    def words_told(self, machine, k):
        looked = looked_machine(machine, k)
        x, y = first_words(looked), last_words(looked)
        words = [x[end] for end in looked[2]]
        for s, row in enumerate(looked[1]):
            words += [x[s] + a + y[t] for a, t in zip(looked[0], row) if t is not None and x[s] + a != x[t]]
        return words

    def test_point_144_a_least_machine_without_the_word_of_400_states_and_more(self):
        for many, told in ((399, None), (400, "states")):
            # Without the first end one state more is there, as the loop has to be told from its first time.
            machine = circle("a", many)
            self.assertEqual(raised(needed_paper, machine, 1, ""), told)
            self.assertIs(is_needed(machine, 1, ""), True)
            self.assertIs(accepts_needed(machine, 1, "", ("needed", ALL_A)), False)
            if told is None:
                paper = needed_paper(machine, 1, "")
                self.assertEqual(len(paper[1][1]), 400)
                self.assertIs(accepts_needed(machine, 1, "", paper), True)
            # A word that is not needed has no such machine.
            self.assertEqual(raised(needed_paper, machine, 0, ""), None)
            self.assertEqual(needed_paper(machine, 0, "a" * many)[0], "not needed")

    def test_point_144_bad_values_come_first(self):
        wrong = {
            "machine": oddities.MACHINES + [chain("a", 401)], "k": oddities.LOOKS, "word": oddities.ASKED_WORDS,
            "sample": oddities.SAMPLES,
        }
        for machine in (EVEN, chain("ab", 3, (1, 2))):
            for function in (telling_number, first_sample, needed_words):
                oddities.check_wrong(self, function, ("machine", "k"), (machine, 0), wrong)
            for function in (tells, thinned):
                oddities.check_wrong(self, function, ("machine", "k", "sample"), (machine, 0, ("b",)), wrong)
            for function in (is_needed, needed_paper, lambda *rest: accepts_needed(*rest, None)):
                oddities.check_wrong(self, function, ("machine", "k", "word"), (machine, 0, "b"), wrong)

    def test_point_144_words_of_500_letters(self):
        self.assertIs(is_needed(ALL_A, 12, "a" * 500), False)
        paper = needed_paper(ALL_A, 12, "a" * 500)
        self.assertIs(accepts_needed(ALL_A, 12, "a" * 500, paper), True)
        self.assertIs(is_needed(EVERY, 12, "a" * 500), False)
        self.assertIs(accepts_needed(EVERY, 12, "ab" * 250, needed_paper(EVERY, 12, "ab" * 250)), True)
        self.assertIs(is_needed(EVERY, 12, "ab"), True)


if __name__ == "__main__":
    unittest.main()
