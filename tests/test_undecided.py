"""Which words are undecided (points 124 to 130)."""

import itertools
import random
import unittest

from backseen.cases import changed
from backseen.errors import TooLarge
from backseen.joining import is_must, seen_machine
from backseen.looking import has_property
from backseen.machines import first_words, takes
from backseen.sides import accepts_apart, accepts_verdict, apart_paper, are_apart, verdict
from backseen.undecided import (
    accepts_undecided, count_undecided, first_undecided, is_any_undecided, undecided_paper,
)
import oddities
import oracles
from oddities import EVERY, NONE

chance = random.Random(124)
FIVE, SIX = ("", "aaaaa"), ("", "aaaaaa")
MANY = ("", "a", "aa", "ab", "aba", "abb")
MOST = {"a": 12, "ab": 5, "abc": 3}


def sides(many):
    found = []
    while len(found) < many:
        letters = chance.choice(("a", "ab", "ab", "abc"))
        sample = oracles.random_sample(chance, letters, chance.choice((2, 4, 6, 9)), chance.choice((2, 3, 4)))[:12]
        outside = oracles.random_sample(chance, letters, chance.choice((2, 4, 8, 12)), chance.choice((2, 3, 4)))[:12]
        found.append((letters, sample, outside, chance.choice((0, 0, 1, 1, 2, 3))))
    return found


SIDES = sides(150) + [("ab", (), (), 1), ("ab", (), ("", "b"), 0), ("a", ("a",), ("a",), 1), ("a", ("", "a"), (), 0)]
def is_open(letters, sample, outside, k, word):
    return verdict(letters, sample, outside, k, word) == "open"


def due(letters, sample, k):
    """The due cases, as point 125 tells them, for M whose leads are told by its first words."""
    machine = seen_machine(letters, sample, k)
    leads = [oracles.lead(word, k) for word in first_words(machine)]
    states = range(len(leads))
    found = [("end", p) for p in states if leads[p] not in [leads[end] for end in machine[2]]]
    for p, q in itertools.combinations(states, 2):
        if leads[p] == leads[q] and len(leads[p]) == k:
            found.append(("join", p, q))
    for p in states:
        if len(leads[p]) < k:
            for t in oracles.all_words(letters, k - len(leads[p]))[1:]:
                if machine[1][p][letters.index(t[0])] is None:
                    if len(leads[p] + t) < k:
                        found.append(("way", p, t, None))
                    else:
                        found.extend(("way", p, t, q) for q in states if leads[q] == leads[p] + t)
    return found


def is_made_by(letters, sample, k, case, word):
    """Whether the machine of a due case takes the word, made plainly: by a word more that has this case."""
    machine = seen_machine(letters, sample, k)
    first = first_words(machine)[case[1]]
    if case[0] == "end":
        more = first
    elif case[0] == "way" and case[3] is None:
        more = first + case[2]
    else:
        q = case[2] if case[0] == "join" else case[3]
        behind = next(y for y in oracles.all_words(letters, 12) if oracles.state_behind(machine, y, q) in machine[2])
        more = first + ("" if case[0] == "join" else case[2]) + behind
    return takes(changed(letters, sample, k, more)[0], word)


def holds_1(letters, sample, k):
    """Whether (1) of point 125 holds."""
    machine = seen_machine(letters, sample, k)
    leads = [oracles.lead(word, k) for word in first_words(machine)]
    if not any(None in row for row in machine[1]):
        return False
    if any(None in row for row, lead in zip(machine[1], leads) if len(lead) == k):
        return True
    ends = {leads[end] for end in machine[2]}
    return any("".join(word) not in ends for word in itertools.product(letters, repeat=k))


# Sides that leave nothing undecided, with due cases of all kinds.
DECIDED = [
    ("a", ("", "aaaaaaaaaaaa"), ("aa", "aaa", "aaaa", "aaaaaa"), 0),
    ("a", ("", "a", "aaaaaaaaaaaa"), ("aaaaa",), 1),
    ("a", ("", "aa", "aaaaaaaaaaaa"), ("a", "aaaa", "aaaaaaa"), 2),
    ("a", ("", "aaaa", "aaaaa", "aaaaaa", "aaaaaaaaaa"), ("a",), 2),
    ("a", ("", "a", "aa", "aaaaaaaaaaa"), ("aaa", "aaaaaaaa"), 2),
    ("a", ("", "aaa", "aaaaaaaaaaaa"), ("a", "aa", "aaaaaaaaa", "aaaaaaaaaaa"), 3),
    ("a", ("", "aaa", "aaaaa", "aaaaaaa", "aaaaaaaaa", "aaaaaaaaaaaa"), ("a", "aa"), 3),
    ("a", ("", "a", "aa", "aaaa", "aaaaaaaaaaaa"), ("aaaaaa", "aaaaaaaa", "aaaaaaaaaaa"), 3),
    ("ab", ("", "aab", "aba", "abb", "baa"), ("baabb",), 0),
    ("ab", ("", "b", "ab", "aab", "abb", "bab"), ("bbbba",), 1),
    ("ab", ("", "ba", "bab", "bba", "baaa", "babb", "baaba", "babaa"), ("ab", "abaaba", "bbabba"), 1),
    ("ab", ("", "a", "b", "ab", "bb", "aaa", "baa", "aaba", "aabba"), ("abaaba",), 1),
    ("ab", ("", "a", "aa", "ab", "aba", "abb"), ("baaaa",), 1),
    (
        "ab", ("", "ab", "bb", "aba", "abb", "bba", "bbb", "abaa", "abab", "abaaa", "abaab"),
        ("a", "b", "aabba", "babab"), 2,
    ),
    (
        "ab", ("", "ab", "aba", "abb", "abaa", "abab", "abba", "abbb", "abaaa", "abaab"),
        ("a", "b", "aaabba", "baaaba", "bbaabb"), 2,
    ),
    (
        "ab", ("", "b", "bb", "bba", "bbb", "bbaa", "bbab", "bbaaa", "bbaab", "bbaba", "bbabb"),
        ("a", "ab", "babb", "aaaaba"), 2,
    ),
    (
        "ab", ("", "a", "b", "aa", "aaa", "aab", "aaba", "aabb", "aabaa", "aabab", "aabba", "aabbb"),
        ("abba", "bbbbb", "baaaab"), 2,
    ),
    ("abc", ("", "b", "ba", "bb", "bc", "baa", "bab", "bac", "bca", "bcb", "bcc"), ("abb", "cabb"), 1),
    ("a", FIVE, ("a",), 0), ("ab", MANY, ("b",), 1), ("ab", ("", "a", "b", "ab"), (), 0), ("a", ("", "a"), (), 0),
]


class Undecided(unittest.TestCase):
    def test_points_124_to_126_the_first_undecided_word(self):
        told = {True: 0, False: 0}
        for letters, sample, outside, k in SIDES + DECIDED:
            found = first_undecided(letters, sample, outside, k)
            told[found is None] += 1
            self.assertIs(is_any_undecided(letters, sample, outside, k), found is not None)
            words = oracles.all_words(letters, MOST[letters])
            slow = next((word for word in words if is_open(letters, sample, outside, k, word)), None)
            if slow is not None or found is None or len(found) <= MOST[letters]:
                self.assertEqual(found, slow)
            else:
                self.assertTrue(is_open(letters, sample, outside, k, found))
            if not are_apart(letters, sample, outside, k):
                self.assertIsNone(found)
        self.assertGreater(min(told.values()), 30)

    def test_point_126_each_first_undecided_word_put_out(self):
        # So what is near is decided bit by bit, and the first undecided word has to be found further and further off.
        lengths = {}
        for _ in range(90):
            letters = chance.choice(("a", "a", "ab", "ab", "abc"))
            sample = oracles.random_sample(chance, letters, chance.choice((1, 2, 3, 5)), chance.choice((2, 3, 4)))
            k = chance.choice((0, 1, 1, 2, 2, 3, 5, 11, 12))
            outside, words = (), iter(oracles.all_words(letters, {"a": 30, "ab": 7, "abc": 4}[letters]))
            while True:
                found = first_undecided(letters, sample, outside, k)
                slow = next((word for word in words if is_open(letters, sample, outside, k, word)), None)
                if slow is not None or found is None:
                    self.assertEqual(found, slow, (letters, sample, outside, k))
                self.assertIs(is_any_undecided(letters, sample, outside, k), found is not None)
                lengths[-1 if found is None else len(found)] = True
                if slow is None or len(found) > 12 or len(outside) == 12:
                    break
                self.assertTrue(is_open(letters, sample, outside, k, found))
                length = chance.randint(0, MOST[letters])
                same_length = [word for word in oracles.all_words(letters, length) if len(word) == length]
                told = sum(is_open(letters, sample, outside, k, word) for word in same_length)
                self.assertEqual(count_undecided(letters, sample, outside, k, length), told)
                outside = oracles.in_order(outside + (found,))
        self.assertLessEqual(set(range(-1, 14)), set(lengths))

    def test_point_124_undecided_words_by_their_machines(self):
        for letters, sample, outside, k in SIDES[:60]:
            if not are_apart(letters, sample, outside, k) or not sample:
                continue
            for word in oracles.all_words(letters, 3):
                if not is_must(letters, sample, k, word):
                    machine = changed(letters, sample, k, word)[0]
                    taking = [takes(machine, other) for other in outside]
                    self.assertEqual(is_open(letters, sample, outside, k, word), not any(taking))

    def test_point_124_just_one_language_fits(self):
        pool = oracles.all_machines("a", 4) + oracles.all_machines("a", 3) + oracles.all_machines("a", 2)
        for letters, sample, outside, k in DECIDED:
            if letters == "a":
                fitting = [
                    machine for machine in pool
                    if has_property(machine, k) and all(takes(machine, word) for word in sample)
                    and not any(takes(machine, word) for word in outside)
                ]
                self.assertLessEqual(
                    len({tuple(takes(machine, "a" * at) for at in range(20)) for machine in fitting}), 1,
                )

    def test_point_125_the_two_rules(self):
        told = {True: 0, False: 0}
        for letters, sample, outside, k in SIDES + DECIDED:
            if not sample or not are_apart(letters, sample, outside, k):
                continue
            if holds_1(letters, sample, k):
                told[True] += 1
                self.assertIs(is_any_undecided(letters, sample, outside, k), True)
                continue
            told[False] += 1
            self.assertLessEqual(len(seen_machine(letters, sample, k)[1]), 12)
            left = [
                case for case in due(letters, sample, k)
                if not any(is_made_by(letters, sample, k, case, word) for word in outside)
            ]
            self.assertIs(is_any_undecided(letters, sample, outside, k), left != [])
        self.assertGreater(min(told.values()), 20)

    def test_point_126_the_word_of_25_letters(self):
        outside = tuple("a" * many for many in range(6))
        self.assertEqual(first_undecided("a", ("a" * 12,), outside, 0), "a" * 25)
        self.assertIs(is_any_undecided("a", ("a" * 12,), outside, 0), True)
        paper = undecided_paper("a", ("a" * 12,), outside, 0)
        self.assertEqual(paper[:2], ("some", "a" * 25))
        self.assertIs(accepts_undecided("a", ("a" * 12,), outside, 0, paper), True)
        for many in range(30):
            told = is_open("a", ("a" * 12,), outside, 0, "a" * many)
            self.assertEqual(told, many >= 25)
            self.assertEqual(count_undecided("a", ("a" * 12,), outside, 0, many), int(told))

    def test_point_126_longer_words_than_those_of_the_samples(self):
        found = {}
        for many in range(1, 13):
            for out in range(1, 13):
                outside = tuple("a" * at for at in range(out) if at != many)
                word = first_undecided("a", ("a" * many,), outside, 0) if len(outside) <= 12 else None
                if word is not None:
                    found[len(word)] = True
                    self.assertTrue(is_open("a", ("a" * many,), outside, 0, word))
                    for at in range(len(word)):
                        self.assertFalse(is_open("a", ("a" * many,), outside, 0, "a" * at))
        self.assertGreater(max(found), 12)

    def test_point_126_a_new_way_that_is_longer_than_all_words_that_are_out(self):
        outside = tuple("a" * many for many in range(1, 13))
        for k in range(1, 13):
            self.assertEqual(first_undecided("a", ("",), outside, k), "a" * 13)
            self.assertEqual(count_undecided("a", ("",), outside, k, 12), 0)
            self.assertEqual(count_undecided("a", ("",), outside, k, 13), 1)
        # At the look 0 one word more makes all words of as many letters, of twice as many, and so on.
        self.assertEqual(first_undecided("a", ("",), outside, 0), "a" * 13)
        self.assertEqual(first_undecided("a", ("",), outside[:-1], 0), "a" * 12)
        self.assertIsNone(first_undecided("a", ("", "a"), (), 0))

    def test_point_126_without_any_word(self):
        for letters in ("a", "ab", "abcd"):
            for k in (0, 1, 12):
                for many in range(9):
                    outside = tuple(oracles.all_words(letters, 12 if letters == "a" else 3)[:many])
                    word = first_undecided(letters, (), outside, k)
                    self.assertEqual(word, oracles.all_words(letters, 12 if letters == "a" else 3)[many])
                    self.assertIs(is_any_undecided(letters, (), outside, k), True)
                    for length in range(4):
                        words = [word for word in outside if len(word) == length]
                        self.assertEqual(
                            count_undecided(letters, (), outside, k, length), len(letters) ** length - len(words),
                        )
                    paper = undecided_paper(letters, (), outside, k)
                    self.assertIs(accepts_undecided(letters, (), outside, k, paper), True)
                    self.assertEqual(paper[:2], ("some", word))
        self.assertEqual(first_undecided("ab", (), ("b",), 0), "")
        self.assertEqual(first_undecided("a", (), tuple("a" * many for many in range(12)), 0), "a" * 12)

    def test_point_127_counts(self):
        for letters, sample, outside, k in SIDES + DECIDED:
            slow = [0] * (MOST[letters] + 1)
            for word in oracles.all_words(letters, MOST[letters]):
                slow[len(word)] += is_open(letters, sample, outside, k, word)
            found = [count_undecided(letters, sample, outside, k, length) for length in range(len(slow))]
            self.assertEqual(found, slow, (letters, sample, outside, k))

    def test_point_127_lengths_0_and_200(self):
        for letters, sample, outside, k in SIDES[:30] + DECIDED:
            most = count_undecided(letters, sample, outside, k, 200)
            self.assertIs(type(most), int)
            self.assertEqual(
                count_undecided(letters, sample, outside, k, 0), int(is_open(letters, sample, outside, k, "")),
            )
            if (letters, sample, outside, k) in DECIDED:
                self.assertEqual(most, 0)
        self.assertEqual(count_undecided("ab", (), ("a",), 0, 200), 2 ** 200)
        self.assertEqual(count_undecided("ab", ("a",), (), 0, 200), 2 ** 200)
        # With a in and the empty word out, aa is the only further word that must not be in.
        found = [count_undecided("ab", ("a",), ("",), 0, length) for length in (0, 1, 2, 3, 199, 200)]
        self.assertEqual(found, [0, 1, 3, 8, 2 ** 199, 2 ** 200])

    def test_point_124_sides_that_are_not_apart(self):
        for k in range(13):
            self.assertIs(is_any_undecided("ab", ("a",), ("a", "b"), k), False)
            self.assertIsNone(first_undecided("ab", ("a",), ("a", "b"), k))
            self.assertEqual(count_undecided("ab", ("a",), ("a", "b"), k, 5), 0)
            self.assertEqual(undecided_paper("ab", ("a",), ("a", "b"), k)[:2], ("clash", "a"))

    def test_point_130_circles_of_m_states(self):
        for many in range(2, 13):
            divisor = next(at for at in range(2, many + 1) if many % at == 0)
            found = first_undecided("a", ("", "a" * many), ("a",), 0)
            self.assertEqual(found, None if divisor == many else "a" * divisor)
            paper = undecided_paper("a", ("", "a" * many), ("a",), 0)
            self.assertEqual(paper[0], "none" if divisor == many else "some")
            self.assertIs(accepts_undecided("a", ("", "a" * many), ("a",), 0, paper), True)
            if divisor == many:
                self.assertEqual(len(paper[1]), many * (many - 1) // 2)


class Evidence(unittest.TestCase):
    def test_point_128_evidence_of_exactly_one_word(self):
        told = {}
        for letters, sample, outside, k in SIDES + DECIDED:
            paper = undecided_paper(letters, sample, outside, k)
            told[paper[0]] = told.get(paper[0], 0) + 1
            self.assertIs(accepts_undecided(letters, sample, outside, k, paper), True)
            if paper[0] == "clash":
                self.assertEqual(paper[1], apart_paper(letters, sample, outside, k)[1])
                self.assertIs(accepts_apart(letters, sample, outside, k, paper), True)
            elif paper[0] == "some":
                self.assertEqual(paper[1], first_undecided(letters, sample, outside, k))
                value = ("open",) + paper[2:]
                self.assertIs(accepts_verdict(letters, sample, outside, k, paper[1], value), True)
            else:
                self.assertFalse(holds_1(letters, sample, k))
                self.assertEqual({row[:-1] for row in paper[1]}, set(due(letters, sample, k)))
        self.assertEqual(set(told), {"clash", "some", "none"})
        self.assertGreater(min(told.values()), 20)

    def test_point_128_each_due_case_in_any_sequence(self):
        rows_seen = 0
        for letters, sample, outside, k in DECIDED:
            def judge(rows, letters=letters, sample=sample, outside=outside, k=k):
                return accepts_undecided(letters, sample, outside, k, ("none", rows))

            rows = undecided_paper(letters, sample, outside, k)[1]
            self.assertIs(judge(rows), True)
            self.assertIs(judge(rows[::-1] + rows), True)
            rows_seen += len(rows)
            for at, row in list(enumerate(rows))[:12]:
                self.assertIs(judge(rows[:at] + rows[at + 1:]), False)
                for n in outside + ("aaaaaa", "cc"):
                    changed_row = row[:-1] + (n,)
                    told = n in outside and is_made_by(letters, sample, k, row[:-1], n)
                    self.assertIs(judge(rows[:at] + (changed_row,) + rows[at + 1:]), told)
                    self.assertIs(judge(rows + (changed_row,)), told)
            for many in (2500, 2501):
                if rows:
                    self.assertIs(judge(rows + rows[:1] * (many - len(rows))), many == 2500)
        self.assertGreater(rows_seen, 100)

    def test_point_128_rows_of_other_cases(self):
        told = {True: 0, False: 0}
        for letters, sample, outside, k in DECIDED:
            rows = undecided_paper(letters, sample, outside, k)[1]
            cases = due(letters, sample, k)
            states = range(-1, len(seen_machine(letters, sample, k)[1]) + 1)
            more = [("end", p) for p in states] + [("join", p, q) for p in states for q in states]
            words = oracles.all_words(letters, k)
            more += [("way", p, t, q) for p in states for t in words for q in [None] + list(states)]
            for case in chance.sample(more, min(60, len(more))):
                for n in outside:
                    good = case in cases and is_made_by(letters, sample, k, case, n)
                    told[good] += 1
                    value = ("none", rows + (case + (n,),))
                    self.assertIs(accepts_undecided(letters, sample, outside, k, value), good, (case, n))
        self.assertGreater(min(told.values()), 40)

    def test_point_128_rows_with_one_item_changed(self):
        row = ("way", 0, "b", 2, "b")

        def judge(*rows):
            return accepts_undecided("ab", MANY, ("b",), 1, ("none", rows))

        self.assertIs(judge(row), True)
        for other in (
            ("way", 0, "b", 2), ("way", 0, "b", 2, "b", "b"), ("Way", 0, "b", 2, "b"), ("way", False, "b", 2, "b"),
            ("way", 0, "b", 2.0, "b"), ("way", 0, "b", True, "b"), ("way", 0, "b", None, "b"), ("way", 0, "b", 1, "b"),
            ("way", 0, "", 2, "b"), ("way", 0, "bb", 2, "b"), ("way", 0, "a", 1, "b"), ("way", 0, "b", 2, "a"),
            ("way", 0, "b", 2, ""),
            ("way", 0, "b", 2, None), ("way", 0, "b", 2, ("b",)), ["way", 0, "b", 2, "b"], ("way", 1, "b", 2, "b"),
            ("end", 0, "b"),
            ("end", 2, "b"), ("join", 0, 1, "b"), ("join", 1, 2, "b"), ("join", 2, 1, "b"), (), ("way",),
            ("way", 0, ("b",), 2, "b"),
        ):
            self.assertIs(judge(other), False, other)
            self.assertIs(judge(row, other), False, other)
        for value in (
            ("none", (row,), ()), ("none", [row]), ["none", (row,)], ("None", (row,)), ("none", row), ("none",),
            (None, (row,)),
            ("none", None), ("some", (row,)), ("clash", (row,)), ("none", (list(row),)),
        ):
            self.assertIs(accepts_undecided("ab", MANY, ("b",), 1, value), False)
        self.assertIs(accepts_undecided("ab", MANY, (), 1, ("none", (row,))), False)
        self.assertIs(accepts_undecided("ab", MANY, ("b",), 0, ("none", (row,))), False)
        self.assertIs(accepts_undecided("ab", (), ("b",), 1, ("none", ())), False)
        self.assertIs(accepts_undecided("ab", ("a",), ("b",), 1, ("none", ())), False)
        joins = tuple(("join", p, q, "a") for p in range(5) for q in range(p + 1, 5))
        self.assertIs(accepts_undecided("a", FIVE, ("a",), 0, ("none", joins)), True)
        for at, join in enumerate(joins):
            swapped = ("join", join[2], join[1], "a")
            self.assertIs(
                accepts_undecided("a", FIVE, ("a",), 0, ("none", joins[:at] + (swapped,) + joins[at + 1:])), False,
            )
        # All words must be in: nothing is due, but the sides must be apart.
        every = ("", "a", "b", "ab")
        self.assertIs(accepts_undecided("ab", every, (), 0, ("none", ())), True)
        self.assertIs(accepts_undecided("ab", every, ("aa",), 0, ("none", ())), False)

    def test_point_128_some_words_by_whomever(self):
        told = {True: 0, False: 0}
        for letters, sample, outside, k in SIDES[:80]:
            for word in oracles.all_words(letters, 2) + ["a" * 100]:
                if is_open(letters, sample, outside, k, word):
                    more = oracles.in_order(sample + (word,))
                    one, other = seen_machine(letters, more, k), seen_machine(letters, sample, k)
                    value = ("some", word, one, other)
                    self.assertIs(accepts_undecided(letters, sample, outside, k, value), True)
                    self.assertIs(accepts_undecided(letters, sample, outside, k, ("some", word, other, one)), False)
                    for changed_word in (word + "a", word[1:], "", word + "a" * 100):
                        good = len(changed_word) <= 100 and accepts_verdict(
                            letters, sample, outside, k, changed_word, ("open", one, other),
                        )
                        told[good] += 1
                        value = ("some", changed_word, one, other)
                        self.assertIs(accepts_undecided(letters, sample, outside, k, value), good)
        self.assertGreater(min(told.values()), 20)
        one = ("ab", ((None, 0), ), (0,))
        for value in (
            ("some", "b" * 100, one, NONE), ("some", "b" * 101, one, NONE), ("some", "b", NONE, one),
            ("some", "c", one, NONE),
        ):
            self.assertIs(accepts_undecided("ab", (), (), 0, value), value[1] == "b" * 100)
        for value in (
            ("some", "b", one), ("some", "b", one, NONE, ()), ("some", None, one, NONE), ("some", "b", list(one), NONE),
            ["some", "b", one, NONE], ("open", one, NONE), ("Some", "b", one, NONE), ("some", ("b",), one, NONE),
            ("some", "b", one, EVERY),
        ):
            self.assertIs(accepts_undecided("ab", (), (), 0, value), False)

    def test_point_128_clashes_by_whomever(self):
        clash = ("clash", "a", (("ends", "ab", "abb"), ("back", "a", "ab", "b")), ("", "ab"))
        seen, out = ("ab", "abb"), ("a", "ba")
        self.assertIs(accepts_undecided("ab", seen, out, 0, clash), True)
        self.assertIs(accepts_undecided("ab", seen, out, 1, clash), False)
        self.assertIs(accepts_undecided("ab", seen, ("ba",), 0, clash), False)
        self.assertIs(accepts_undecided("ab", seen, out, 0, ("apart", EVERY)), False)
        self.assertIs(accepts_undecided("ab", seen, out, 0, clash[:2] + (clash[2][:1],) + clash[3:]), False)

    def test_points_128_and_8_values_of_any_kind(self):
        names = ("clash", "some", "none", "end", "join", "way")
        for letters, sample, outside, k in (("ab", MANY, ("b",), 1), ("a", SIX, ("a",), 0), ("a", ("a",), ("a",), 0)):
            more = [("none", ()), ("none", ((),)), ("some", "", NONE, NONE), ("clash", "a", (), ())]
            oddities.check_judge(self, lambda value: accepts_undecided(letters, sample, outside, k, value), more, names)
        row = ("way", 0, "b", 2, "b")
        for odd in oddities.oddities():
            self.assertIs(accepts_undecided("ab", MANY, ("b",), 1, ("none", (row, odd))), False)
            for at in range(5):
                changed_row = row[:at] + (odd,) + row[at + 1:]
                self.assertIs(accepts_undecided("ab", MANY, ("b",), 1, ("none", (changed_row,))), False)


class Edges(unittest.TestCase):
    def test_point_129_exactly_40_states_and_more(self):
        for k in (0, 12):
            for many, told in ((40, None), (41, "cases")):
                sample = self.sample_with(many, k)
                self.assertEqual(len(seen_machine("abcd", sample, k)[1]), many)
                for outside in ((), ("d" * 12,), sample[:1]):
                    self.assertEqual(self.raised(first_undecided, "abcd", sample, outside, k), told)
                    self.assertEqual(self.raised(count_undecided, "abcd", sample, outside, k, 3), told)
                    self.assertEqual(self.raised(undecided_paper, "abcd", sample, outside, k), told)
                    self.assertIs(is_any_undecided("abcd", sample, outside, k), outside != sample[:1])
                    self.assertIs(accepts_undecided("abcd", sample, outside, k, None), False)
                value = (
                    "some", "d", seen_machine("abcd", oracles.in_order(sample + ("d",)), k),
                    seen_machine("abcd", sample, k),
                )
                self.assertIs(accepts_undecided("abcd", sample, (), k, value), True)

    def sample_with(self, many, k):
        """A sample whose seen machine has so many states: a tree, of which at the look 0 all ends are one."""
        words = ["a" * 12, "b" * 12, "c" * 12]
        ends = 3 if k else 1
        last = many - (1 + 3 * 11 + ends)
        return oracles.in_order(words + ["d" * (last + (0 if k else 1))])

    def raised(self, function, *arguments):
        try:
            function(*arguments)
        except TooLarge as error:
            return error.what
        return None

    def test_point_129_wrong_arguments(self):
        wrong = {
            "letters": oddities.LETTERS, "sample": oddities.SHORT_SAMPLES, "outside": oddities.SHORT_SAMPLES,
            "k": oddities.LOOKS, "length": [None, "1", -1, 201, 10 ** 30, (1,)],
        }
        names, right = ("letters", "sample", "outside", "k"), ("ab", ("a",), ("b",), 1)
        for function in (
            is_any_undecided, first_undecided, undecided_paper, lambda *rest: accepts_undecided(*rest, None),
        ):
            oddities.check_wrong(self, function, names, right, wrong)
        oddities.check_wrong(self, count_undecided, names + ("length",), right + (3,), wrong)

    def test_point_129_ahead_of_too_large(self):
        sample = self.sample_with(41, 12)
        self.assertTrue(oddities.is_refused(count_undecided, ("abcd", sample, (), 12, 201), "length"))
        self.assertTrue(oddities.is_refused(first_undecided, ("abcd", sample, (), 13), "k"))
        self.assertTrue(oddities.is_refused(undecided_paper, ("abcd", sample, ("e",), 12), "outside"))

    def test_large_samples(self):
        words = ["".join("ab"[number >> at & 1] for at in range(12)) for number in range(100, 3600, 146)]
        sample, outside = oracles.in_order(words[:12]), oracles.in_order(words[12:24])
        for k in (0, 3, 12):
            self.assertIs(is_any_undecided("ab", sample, outside, k), are_apart("ab", sample, outside, k))
            self.assertIs(accepts_undecided("ab", sample, outside, k, ("none", ())), False)


if __name__ == "__main__":
    unittest.main()
