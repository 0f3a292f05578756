"""Words that are in and words that are out: verdicts and their evidence (points 102 to 112, 115 and 116)."""

import itertools
import random
import unittest

from backseen.comparing import common, outside_word
from backseen.errors import TooLarge
from backseen.joining import closure, is_must, seen_machine
from backseen.looked import looked_states
from backseen.looking import has_property, is_of_look
from backseen.machines import is_machine, least_of, takes, tree_of
from backseen.papers import accepts_paper, joins_for, paper_for
from backseen.sides import (
    accepts_apart, accepts_least_apart, accepts_verdict, apart_paper, are_apart, least_apart, least_apart_from,
    least_apart_paper, verdict, verdict_paper,
)
from backseen.wholes import closure_of
from backseen.words import beginnings
import oddities
import oracles
from oddities import EVEN, NONE, chain, circle

chance = random.Random(102)
SIDES = [
    (oracles.random_sample(chance, "ab", 4, 4), oracles.random_sample(chance, "ab", 3, 4)) for _ in range(90)
] + [((), ()), ((), ("", "a")), (("a",), ()), (("a",), ("",)), (("",), ("",)), (("", "aa"), ("a",))]
SEEN, OUT = ("ab", "abb"), ("a", "ba")
MACHINE = ("ab", ((1, None), (None, 2), (None, 2)), (2,))
CLASH = ("clash", "a", (("ends", "ab", "abb"), ("back", "a", "ab", "b")), ("", "ab"))
LOOKS = (0, 1, 2, 3, 12)
WORDS = oracles.all_words("ab", 4)
NAMES = ("apart", "clash", "must", "must not", "open", "never")


def put_in(sample, word):
    return oracles.in_order(sample + (word,))


def is_clash(sample, outside, k):
    return any(is_must("ab", sample, k, word) for word in outside)


def plain_verdict(sample, outside, k, word):
    """The verdict by closures, as point 106 tells it."""
    if is_clash(sample, outside, k):
        return "clash"
    if is_must("ab", sample, k, word):
        return "must"
    return "must not" if is_clash(put_in(sample, word), outside, k) else "open"


def fits(machine, sample, outside, k):
    return all(takes(machine, word) for word in sample) and not any(takes(machine, word) for word in outside)


def is_right_clash(sample, outside, k, value):
    return value[1] in outside and accepts_paper("ab", sample, k, value[1], ("must",) + tuple(value[2:]))


def is_right(sample, outside, k, word, value):
    """Whether evidence about a verdict is to be accepted, by the judges of earlier chapters."""
    apart = not is_clash(sample, outside, k)
    if value[0] == "clash":
        return is_right_clash(sample, outside, k, value)
    if value[0] == "must":
        return apart and accepts_paper("ab", sample, k, word, value)
    if value[0] == "must not":
        return apart and is_right_clash(put_in(sample, word), outside, k, value)
    good = all(has_property(machine, k) and fits(machine, sample, outside, k) for machine in value[1:])
    return good and takes(value[1], word) and not takes(value[2], word)


class Apart(unittest.TestCase):
    def test_points_102_and_103_are_apart(self):
        told = {True: 0, False: 0}
        for sample, outside in SIDES:
            looks = [are_apart("ab", sample, outside, k) for k in range(13)]
            for k, apart in enumerate(looks):
                told[apart] += 1
                self.assertIs(apart, not is_clash(sample, outside, k))
            self.assertEqual(looks, sorted(looks))
            if set(sample) & set(outside):
                self.assertNotIn(True, looks)
            else:
                self.assertIs(looks[max(map(len, sample), default=0)], True)
                self.assertIs(looks[max(map(len, outside), default=0) + 1], True)
            if not sample:
                self.assertNotIn(False, looks)
        self.assertGreater(min(told.values()), 50)

    def test_point_102_by_all_languages_of_small_machines(self):
        pool = oracles.all_machines("a", 4) + oracles.all_machines("a", 3) + [("a", (), ())]
        words = oracles.all_words("a", 3)
        for sample in itertools.chain.from_iterable(itertools.combinations(words, many) for many in (0, 1, 2)):
            for outside in itertools.chain.from_iterable(itertools.combinations(words, many) for many in (0, 1, 2)):
                for k in (0, 1, 2):
                    fitting = [
                        machine for machine in pool if fits(machine, sample, outside, k) and is_of_look(machine, k)
                    ]
                    apart = are_apart("a", sample, outside, k)
                    self.assertTrue(apart or not fitting)
                    for word in words:
                        told = verdict("a", sample, outside, k, word)
                        taking = [takes(machine, word) for machine in fitting]
                        if told in ("must", "must not"):
                            self.assertEqual(set(taking), {told == "must"} if taking else set())
                        self.assertEqual(told == "clash", not apart)
                        if False in taking and True in taking:
                            self.assertEqual(told, "open")

    def test_point_104_evidence_of_exactly_one_word(self):
        for sample, outside in SIDES:
            for k in LOOKS:
                paper = apart_paper("ab", sample, outside, k)
                self.assertEqual(paper[0], "apart" if are_apart("ab", sample, outside, k) else "clash")
                self.assertIs(accepts_apart("ab", sample, outside, k, paper), True)
                if paper[0] == "apart":
                    self.assertEqual(len(paper), 2)
                    self.assertTrue(has_property(paper[1], k) and fits(paper[1], sample, outside, k))
                else:
                    _, n, rows, way = paper
                    self.assertEqual(n, [word for word in outside if is_must("ab", sample, k, word)][0])
                    self.assertIs(accepts_paper("ab", sample, k, n, ("must", rows, way)), True)
                    self.assertLessEqual(len(rows), len(beginnings("ab", sample)))

    def test_point_104_machines_by_whomever(self):
        told = {True: 0, False: 0}
        pool = oracles.random_machines(104, 30, "ab", 4) + [NONE, EVEN]
        for sample, outside in SIDES:
            for k in (0, 1, 2):
                machines = [
                    seen_machine("ab", sample, k), closure("ab", put_in(sample, "ab"), k), tree_of("ab", sample),
                ]
                for machine in machines + [chance.choice(pool)]:
                    good = has_property(machine, k) and fits(machine, sample, outside, k)
                    told[good] += 1
                    self.assertIs(accepts_apart("ab", sample, outside, k, ("apart", machine)), good)
        self.assertGreater(min(told.values()), 100)
        self.assertIs(accepts_apart("ab", SEEN, OUT, 1, ("apart", MACHINE)), True)
        self.assertIs(accepts_apart("ab", SEEN, OUT, 0, ("apart", MACHINE)), False)
        self.assertIs(accepts_apart("ab", SEEN, OUT, 1, ("apart", ("abc",) + MACHINE[1:])), False)
        self.assertIs(accepts_apart("abc", SEEN, OUT, 1, ("apart", MACHINE)), False)
        # Not least, and with the property from the look 1 on only, though its language is of look 0.
        tree = tree_of("ab", ("a", "b"))
        looks = [accepts_apart("ab", ("a", "b"), ("ab",), k, ("apart", tree)) for k in range(3)]
        self.assertEqual(looks, [False, True, True])

    def test_point_104_any_word_that_is_out(self):
        sample = ("", "a")
        rows = (("ends", "", "a"),)
        for n in ("a", "aa", "aaa"):
            way = ("",) * len(n) + ("",)
            value = ("clash", n, rows, way)
            self.assertIs(accepts_apart("ab", sample, ("b", "aa", "aaa"), 0, value), n != "a")
        self.assertEqual(apart_paper("ab", sample, ("b", "aa", "aaa"), 0)[1], "aa")
        self.assertEqual(apart_paper("ab", sample, ("b", "aaa"), 0)[1], "aaa")
        self.assertIs(accepts_apart("ab", sample, ("b",), 0, ("clash", "b", rows, ("", ""))), False)

    def test_point_104_clashes_with_one_thing_changed(self):
        def judge(*value):
            return accepts_apart("ab", SEEN, OUT, 0, value)

        _, n, rows, way = CLASH
        self.assertIs(judge(*CLASH), True)
        self.assertIs(judge("clash", n, rows + rows + (("ends", "abb", "ab"),), way), True)
        self.assertIs(judge("clash", n, rows, ("", "a")), False)
        self.assertIs(judge("clash", n, rows + (("on", "a", "ab", "b"),), ("", "ab")), True)
        self.assertIs(judge("clash", n, rows, ("", "abb")), True)
        self.assertIs(judge("clash", n, rows + (("back", "ab", "a", "b"),), ("", "ab")), True)
        for value in (
            ("clash", "ba", rows, way), ("clash", "b", rows, way), ("clash", "ab", rows, ("", "a", "ab")),
            ("clash", n, rows[1:], way),
            ("clash", n, rows[::-1], way), ("clash", n, rows[:1], way), ("clash", n, (), way),
            ("clash", n, rows, ("", "")),
            ("clash", n, rows, ("a", "ab")), ("clash", n, rows, way[:1]), ("clash", n, rows),
            ("clash", n, rows, way, ()),
            ("clash", n, list(rows), way), ("clash", n, rows, list(way)), list(CLASH), ("must", rows, way),
            ("must", n, rows, way),
            ("Clash", n, rows, way), (None, n, rows, way), ("clash", None, rows, way), ("clash", (n,), rows, way),
            ("apart", n, rows, way), ("clash", ("must", rows, way)), ("must not", n, rows, way),
        ):
            self.assertIs(accepts_apart("ab", SEEN, OUT, 0, value), False, value)
        self.assertIs(accepts_apart("ab", SEEN, OUT, 1, CLASH), False)

    def test_points_104_and_8_values_of_any_kind(self):
        for k in (0, 1):
            more = [("apart", NONE), ("apart", None), ("clash", "a", (), ()), ("clash", "ba", (), ("", "", ""))]
            oddities.check_judge(self, lambda value: accepts_apart("ab", SEEN, OUT, k, value), more, NAMES)
        for odd in oddities.oddities():
            for at in range(1, 4):
                self.assertIs(accepts_apart("ab", SEEN, OUT, 0, CLASH[:at] + (odd,) + CLASH[at + 1:]), False)


class Verdicts(unittest.TestCase):
    def test_points_105_and_106_verdicts(self):
        told = {}
        for sample, outside in SIDES:
            for k in LOOKS:
                for word in WORDS:
                    found = verdict("ab", sample, outside, k, word)
                    told[found] = told.get(found, 0) + 1
                    self.assertEqual(found, plain_verdict(sample, outside, k, word))
                    if found != "clash" and word in sample:
                        self.assertEqual(found, "must")
                    if found != "clash" and word in outside:
                        self.assertEqual(found, "must not")
                    if not sample:
                        self.assertEqual(found, "must not" if word in outside else "open")
        self.assertEqual(set(told), {"clash", "must", "must not", "open"})
        self.assertGreater(min(told.values()), 200)

    def test_point_106_the_example(self):
        self.assertEqual([verdict("ab", ("a",), ("",), 0, word) for word in ("a", "b", "ba")], ["must", "open", "open"])
        self.assertIs(is_must("ab", ("a", "b", "ba"), 0, ""), True)

    def test_point_107_evidence_of_exactly_one_word(self):
        for sample, outside in SIDES:
            for k in (0, 1, 2, 12):
                for word in WORDS[:16]:
                    paper = verdict_paper("ab", sample, outside, k, word)
                    self.assertEqual(paper[0], verdict("ab", sample, outside, k, word))
                    self.assertIs(accepts_verdict("ab", sample, outside, k, word, paper), True)
                    self.assertTrue(is_right(sample, outside, k, word, paper))
                    more = put_in(sample, word) if paper[0] == "must not" else sample
                    if paper[0] in ("clash", "must not"):
                        self.assertEqual(paper[1], [n for n in outside if is_must("ab", more, k, n)][0])
                    if paper[0] != "open":
                        self.assertLessEqual(len(paper[-2]), len(beginnings("ab", more)))

    def test_point_107_evidence_where_the_sides_are_not_apart(self):
        tried = 0
        for sample, outside in SIDES:
            for k in (0, 1):
                if are_apart("ab", sample, outside, k):
                    continue
                for word in WORDS[:16]:
                    if is_must("ab", sample, k, word):
                        tried += 1
                        value = paper_for("ab", sample, k, word)
                        self.assertIs(accepts_verdict("ab", sample, outside, k, word, value), False)
                        self.assertIs(accepts_verdict("ab", sample, (), k, word, value), True)
                    more = put_in(sample, word)
                    for n in outside:
                        if is_must("ab", more, k, n):
                            _, rows, way = paper_for("ab", more, k, n)
                            value = ("must not", n, rows, way)
                            self.assertIs(accepts_verdict("ab", sample, outside, k, word, value), False)
        self.assertGreater(tried, 50)

    def test_point_107_evidence_of_other_verdicts_and_other_questions(self):
        papers = []
        for sample, outside in SIDES[:40]:
            for k in (0, 1):
                for word in ("", "a", "ba"):
                    papers.append(verdict_paper("ab", sample, outside, k, word))
        told = {True: 0, False: 0}
        for sample, outside in SIDES[:40]:
            for k in (0, 1):
                for word in ("", "a", "ba"):
                    for value in chance.sample(papers, 12):
                        good = is_right(sample, outside, k, word, value)
                        told[good] += 1
                        self.assertIs(accepts_verdict("ab", sample, outside, k, word, value), good)
        self.assertGreater(min(told.values()), 20)

    def test_point_107_evidence_by_whomever(self):
        further = (("ends", "b", "ab"), ("back", "", "a", "b"), ("ends", "ab", "abb"), ("back", "a", "ab", "b"))
        way = ("", "", "ab")

        def judge(*value):
            return accepts_verdict("ab", SEEN, ("ba",), 0, "b", value)

        self.assertIs(judge("must not", "ba", further, way), True)
        self.assertIs(judge("must not", "ba", further + further, way), True)
        self.assertIs(judge("must not", "ba", further[2:] + further[:2], way), True)
        self.assertIs(judge("must not", "ba", further, ("", "a", "ab")), False)
        for value in (
            ("must not", "ba", further[1:], way), ("must not", "ba", further[::-1], way),
            ("must not", "b", further, way),
            ("must not", "ab", further, way), ("must", "ba", further, way), ("must", further, way),
            ("clash", "ba", further, way),
            ("must not", further, way), ("must not", "ba", further), ("must not", "ba", further, way, ()),
            ("must not", "ba", further, way[1:]),
            ("mustnot", "ba", further, way), ["must not", "ba", further, way], ("must not", "ba", list(further), way),
            ("must not", None, further, way), ("must not", ("ba",), further, way),
        ):
            self.assertIs(
                judge(*value) if type(value) is tuple else accepts_verdict("ab", SEEN, ("ba",), 0, "b", value), False,
            )
        self.assertIs(accepts_verdict("ab", SEEN, ("b", "ba"), 0, "b", ("must not", "ba", further, way)), True)
        for k in (1, 2):
            self.assertIs(accepts_verdict("ab", SEEN, ("ba",), k, "b", ("must not", "ba", further, way)), False)
        must = ("must", (("ends", "ab", "abb"),), ("", "a", "ab", "ab", "ab"))
        self.assertIs(accepts_verdict("ab", SEEN, OUT, 1, "abbb", must), True)
        self.assertIs(accepts_verdict("ab", SEEN, OUT, 1, "abb", must), False)
        self.assertIs(accepts_verdict("ab", SEEN, OUT, 0, "abbb", must), False)
        self.assertIs(accepts_verdict("ab", SEEN, OUT, 2, "abbb", must), False)
        self.assertIs(accepts_verdict("ab", SEEN, OUT, 1, "abbb", ("must", (), must[2])), False)
        self.assertIs(accepts_verdict("ab", SEEN, OUT, 1, "abbb", must + ((),)), False)
        self.assertIs(accepts_verdict("ab", SEEN, OUT, 1, "abbb", ("must not",) + must[1:]), False)

    def test_point_107_two_machines_by_whomever(self):
        told = {True: 0, False: 0}
        pool = oracles.random_machines(107, 20, "ab", 4) + [NONE, MACHINE]
        for sample, outside in SIDES[:50] + [((), ()), ((), ("a",))]:
            for k in (0, 1, 2):
                machines = [closure("ab", put_in(sample, word), k) for word in ("", "b", "ab")] + chance.sample(pool, 2)
                for one, other in itertools.product(machines + [seen_machine("ab", sample, k)], repeat=2):
                    word = chance.choice(WORDS[:8])
                    good = is_right(sample, outside, k, word, ("open", one, other))
                    told[good] += 1
                    self.assertIs(accepts_verdict("ab", sample, outside, k, word, ("open", one, other)), good)
        self.assertGreater(min(told.values()), 100)
        one = ("ab", ((1, None), (1, 2), (None, 2)), (2,))
        self.assertIs(accepts_verdict("ab", SEEN, OUT, 1, "aab", ("open", one, MACHINE)), True)
        for value in (
            ("open", MACHINE, one), ("open", one, one), ("open", MACHINE, MACHINE), ("open", one),
            ("open", one, MACHINE, ()),
            ("open", (one, MACHINE)), ("open", list(one), MACHINE), ("open", one, None), ["open", one, MACHINE],
            ("apart", one),
            ("Open", one, MACHINE), ("open", ("abc",) + one[1:], MACHINE),
        ):
            self.assertIs(accepts_verdict("ab", SEEN, OUT, 1, "aab", value), False)

    def test_points_107_and_8_values_of_any_kind(self):
        for word, k in (("abbb", 1), ("ba", 1), ("aab", 1), ("b", 0)):
            more = [("must", (), ()), ("must not", "ba", (), ()), ("open", NONE, NONE), ("clash", "a", (), ())]
            oddities.check_judge(self, lambda value: accepts_verdict("ab", SEEN, OUT, k, word, value), more, NAMES)
        paper = verdict_paper("ab", SEEN, ("ba",), 0, "b")
        for odd in oddities.oddities():
            for at in range(4):
                value = paper[:at] + (odd,) + paper[at + 1:]
                self.assertIs(accepts_verdict("ab", SEEN, ("ba",), 0, "b", value), False)

    def test_point_108_what_stays(self):
        for sample, outside in SIDES:
            for k in (0, 1, 2):
                if not are_apart("ab", sample, outside, k):
                    continue
                more, further = chance.choice(WORDS), chance.choice(WORDS)
                grown = put_in(sample, more), oracles.in_order(outside + (further,))
                if are_apart("ab", *grown, k):
                    for word in WORDS[:15]:
                        paper = verdict_paper("ab", sample, outside, k, word)
                        if paper[0] in ("must", "must not"):
                            self.assertEqual(verdict("ab", *grown, k, word), paper[0])
                            self.assertIs(accepts_verdict("ab", grown[0], grown[1], k, word, paper), True)
                        paper = verdict_paper("ab", *grown, k, word)
                        if paper[0] == "open":
                            self.assertEqual(verdict("ab", sample, outside, k, word), "open")
                            self.assertIs(accepts_verdict("ab", sample, outside, k, word, paper), True)

    def test_point_108_the_word_itself_put_in(self):
        for sample, outside in SIDES[:60]:
            for k in (0, 1):
                if not are_apart("ab", sample, outside, k):
                    continue
                for word in WORDS[:7]:
                    told = verdict("ab", sample, outside, k, word)
                    for grown, same, opposite in (
                        ((put_in(sample, word), outside), "must", "must not"),
                        ((sample, oracles.in_order(outside + (word,))), "must not", "must"),
                    ):
                        self.assertIs(are_apart("ab", *grown, k), told != opposite)
                        if told == same:
                            for other in WORDS[:15]:
                                self.assertEqual(
                                    verdict("ab", *grown, k, other), verdict("ab", sample, outside, k, other),
                                )
                        elif told == "open":
                            self.assertEqual(verdict("ab", *grown, k, word), same)

    def test_point_109_greater_looks(self):
        for sample, outside in SIDES:
            for k in range(4):
                for word in WORDS[:15]:
                    above = verdict_paper("ab", sample, outside, k + 1, word)
                    here = verdict_paper("ab", sample, outside, k, word)
                    if are_apart("ab", sample, outside, k):
                        self.assertIn(above[0], (here[0], "open"))
                        if above[0] != "open":
                            self.assertIs(accepts_verdict("ab", sample, outside, k, word, above), True)
                        if here[0] == "open":
                            self.assertIs(accepts_verdict("ab", sample, outside, k + 1, word, here), True)
                    if above[0] == "clash":
                        self.assertIs(accepts_verdict("ab", sample, outside, k, word, above), True)
                apart = apart_paper("ab", sample, outside, k)
                if apart[0] == "apart":
                    self.assertIs(accepts_apart("ab", sample, outside, k + 1, apart), True)

    def test_point_109_other_letters_and_reversed_words(self):
        swap = {"a": "d", "b": "c"}
        for sample, outside in SIDES:
            for k in (0, 1, 2):
                for word in WORDS[:15]:
                    told = verdict("ab", sample, outside, k, word)
                    self.assertEqual(verdict("abcd", sample, outside, k, word), told)
                    back = [oracles.in_order(other[::-1] for other in side) for side in (sample, outside)]
                    self.assertEqual(verdict("ab", *back, k, word[::-1]), told)

                    def other(text):
                        return "".join(swap[letter] for letter in text)

                    moved = [oracles.in_order(other(text) for text in side) for side in (sample, outside)]
                    self.assertEqual(verdict("cd", *moved, k, other(word)), told)


class Least(unittest.TestCase):
    def test_point_110_the_least_look(self):
        told = {}
        for sample, outside in SIDES:
            k = least_apart("ab", sample, outside)
            told[k] = told.get(k, 0) + 1
            looks = [are_apart("ab", sample, outside, look) for look in range(13)]
            self.assertEqual(k, looks.index(True) if True in looks else None)
            self.assertEqual(k is None, bool(set(sample) & set(outside)))
            if k:
                self.assertLessEqual(k, max(map(len, sample)))
                self.assertLessEqual(k, max(map(len, outside)) + 1)
        self.assertGreater(min(told[None], told[0], told[1]), 2)
        self.assertEqual(least_apart("ab", (), ()), 0)

    def test_point_110_the_greatest_least_look(self):
        for many in range(11):
            self.assertEqual(least_apart("a", ("a" * (many + 1),), ("a" * many,)), 0)
            sample, outside = ("b" * many, "b" * (many + 1)), ("b" * (many + 2),)
            self.assertEqual(least_apart("ab", sample, outside), many + 1)
            paper = least_apart_paper("ab", sample, outside)
            self.assertEqual(paper[:2], ("apart", many + 1))
            self.assertIs(accepts_least_apart("ab", sample, outside, paper), True)

    def test_point_111_evidence_of_exactly_one_word(self):
        for sample, outside in SIDES:
            paper = least_apart_paper("ab", sample, outside)
            k = least_apart("ab", sample, outside)
            self.assertIs(accepts_least_apart("ab", sample, outside, paper), True)
            if k is None:
                self.assertEqual(paper, ("never", oracles.in_order(set(sample) & set(outside))[0]))
                continue
            self.assertEqual(paper[:2], ("apart", k))
            self.assertTrue(fits(paper[2], sample, outside, k) and has_property(paper[2], k))
            if k == 0:
                self.assertEqual(paper[3], ())
            else:
                self.assertTrue(is_right_clash(sample, outside, k - 1, paper[3]))
                self.assertEqual(paper[3][1], [n for n in outside if is_must("ab", sample, k - 1, n)][0])

    def test_point_111_evidence_by_whomever(self):
        def judge(*value):
            return accepts_least_apart("ab", SEEN, OUT, value)

        self.assertIs(judge("apart", 1, MACHINE, CLASH), True)
        self.assertIs(judge("apart", 1, closure("ab", SEEN, 1), CLASH), True)
        rows = CLASH[2] + (("ends", "abb", "ab"), ("ends", "ab", "ab"))
        self.assertIs(judge("apart", 1, MACHINE, ("clash", "a", rows, ("", "ab"))), True)
        for value in (
            ("apart", 0, MACHINE, ()), ("apart", 1, MACHINE, ()), ("apart", 2, MACHINE, CLASH),
            ("apart", 0, MACHINE, CLASH),
            ("apart", True, MACHINE, CLASH), ("apart", 1.0, MACHINE, CLASH), ("apart", "1", MACHINE, CLASH),
            ("apart", 13, MACHINE, CLASH),
            ("apart", -1, MACHINE, CLASH), ("apart", 1, EVEN, CLASH), ("apart", 1, MACHINE),
            ("apart", 1, MACHINE, CLASH, ()),
            ("apart", MACHINE, CLASH), ("apart", 1, list(MACHINE), CLASH), ("apart", 1, MACHINE, list(CLASH)),
            ("apart", 1, MACHINE, ("clash", "ba") + CLASH[2:]), ("apart", 1, MACHINE, CLASH[:3]), ("never", "a"),
            ("never", "ab"),
            ("never",), ("never", None), ("clash",) + CLASH[1:], ("Apart", 1, MACHINE, CLASH),
            ("apart", 1, ("apart", MACHINE), CLASH),
        ):
            self.assertIs(judge(*value), False, value)
        for n in ("abb", "ab", "b", "", "bb"):
            self.assertIs(accepts_least_apart("ab", SEEN, ("b", "ab", "abb"), ("never", n)), n in SEEN)
        self.assertIs(accepts_least_apart("ab", SEEN, ("b", "ab"), ["never", "ab"]), False)
        self.assertIs(accepts_least_apart("ab", SEEN, ("b", "ab"), ("never", "ab", ())), False)
        self.assertIs(accepts_least_apart("ab", SEEN, ("b",), ("apart", 0, closure("ab", SEEN, 0), ())), True)
        self.assertIs(accepts_least_apart("ab", SEEN, ("b",), ("apart", 0, closure("ab", SEEN, 0), [])), False)
        self.assertIs(accepts_least_apart("ab", SEEN, ("b",), ("apart", 1, closure("ab", SEEN, 1), CLASH)), False)

    def test_points_111_and_8_values_of_any_kind(self):
        for outside in (OUT, ("b",), ("b", "abb")):
            more = [("never", "b"), ("apart", 0, NONE, ()), ("apart", 1, NONE, ())]
            oddities.check_judge(self, lambda value: accepts_least_apart("ab", SEEN, outside, value), more, NAMES)
        paper = ("apart", 1, MACHINE, CLASH)
        for odd in [odd for odd in oddities.oddities() if odd is not True]:
            for at in range(4):
                self.assertIs(accepts_least_apart("ab", SEEN, OUT, paper[:at] + (odd,) + paper[at + 1:]), False)


class From(unittest.TestCase):
    def test_point_112_for_a_tree_it_is_the_least_look_of_the_sample(self):
        for sample, outside in SIDES:
            self.assertEqual(least_apart_from(tree_of("ab", sample), outside), least_apart("ab", sample, outside))

    def test_point_112_by_closures(self):
        told = {}
        for machine in oracles.random_machines(112, 80, "ab", 4) + [NONE, EVEN]:
            for outside in oracles.random_samples(113, 8, "ab", 4, 2) + [()]:
                k = least_apart_from(machine, outside)
                told[k] = told.get(k, 0) + 1
                self.assertEqual(least_apart_from(least_of(machine), outside), k)
                self.assertEqual(k is None, any(takes(machine, word) for word in outside))
                if k is None:
                    continue
                looks = [not any(takes(closure_of(machine, look), word) for word in outside) for look in range(4)]
                self.assertEqual(k, looks.index(True))
                self.assertLessEqual(k, max(map(len, outside), default=-1) + 1)
        self.assertGreater(min(told[None], told[0], told[1], told[2]), 2)
        self.assertEqual(least_apart_from(EVEN, ()), 0)
        self.assertEqual(least_apart_from(MACHINE, ("a",)), 1)
        self.assertIsNone(least_apart_from(MACHINE, ("ab",)))

    def test_point_112_the_number_13(self):
        v = "b" * 12
        machine = tree_of("ab", ("a" + v, v + "a", "a" + v + "a"))
        self.assertEqual(least_apart_from(machine, (v,)), 13)
        for k in range(13):
            self.assertIs(takes(closure_of(machine, k), v), True)
        v = "b" * 11
        self.assertEqual(least_apart_from(tree_of("ab", ("a" + v, v + "a", "a" + v + "a")), (v,)), 12)
        # With one word more that is out and in no closure.
        v = "b" * 12
        self.assertEqual(least_apart_from(machine, ("", "ab", v)), 13)

    def test_point_112_more_than_400_looked_states(self):
        for k in range(2, 14):
            # The word of k - 1 letters is in the closure at k - 1, and not at k: 400 looked states there, or more.
            for states, told in ((400 - k, None), (401 - k, "looked")):
                machine = circle("a", states, (k, k + 1))
                found = None
                try:
                    found = least_apart_from(machine, ("a" * (k - 1),))
                except TooLarge as error:
                    self.assertEqual(error.what, "looked")
                    self.assertEqual(told, "looked")
                else:
                    self.assertIsNone(told)
                    self.assertEqual(found, k)
                    self.assertEqual(len(looked_states(machine, min(k, 12))), 400 - (k == 13))
        # Taken words and small numbers come without looking at more.
        self.assertIsNone(least_apart_from(circle("a", 400), ("",)))
        self.assertEqual(least_apart_from(circle("a", 400), ("a",)), 0)
        self.assertEqual(least_apart_from(circle("ab", 400), ("a", "b" * 12)), 0)
        self.assertEqual(least_apart_from(circle("a", 400, tuple(range(0, 400, 2))), ("a",)), 0)

    def test_point_112_the_limit_is_that_of_the_number_returned(self):
        # At the look 1 there are more than 400 looked states already; the word that is out is in the closure up to 2.
        machine = circle("a", 400, (3, 4))
        with self.assertRaises(TooLarge):
            least_apart_from(machine, ("aa",))


class Wrong(unittest.TestCase):
    def test_point_115_wrong_arguments(self):
        wrong = {
            "letters": oddities.LETTERS, "sample": oddities.SHORT_SAMPLES, "outside": oddities.SHORT_SAMPLES,
            "k": oddities.LOOKS, "word": oddities.WORDS + ["a" * 101, "ab" * 51],
            "machine": oddities.MACHINES + [chain("a", 401)],
        }
        names, right = ("letters", "sample", "outside", "k", "word"), ("ab", ("a",), ("b",), 1, "ab")
        for function in (are_apart, apart_paper):
            oddities.check_wrong(self, function, names[:4], right[:4], wrong)
        for function in (verdict, verdict_paper):
            oddities.check_wrong(self, function, names, right, wrong)
        for function in (least_apart, least_apart_paper):
            oddities.check_wrong(self, function, names[:3], right[:3], wrong)
        oddities.check_wrong(self, lambda *rest: accepts_apart(*rest, None), names[:4], right[:4], wrong)
        oddities.check_wrong(self, lambda *rest: accepts_verdict(*rest, None), names, right, wrong)
        oddities.check_wrong(self, lambda *rest: accepts_least_apart(*rest, None), names[:3], right[:3], wrong)
        oddities.check_wrong(self, least_apart_from, ("machine", "outside"), (EVEN, ("a",)), wrong)
        self.assertTrue(oddities.is_refused(least_apart_from, (circle("a", 400, (3, 4)), ("b",)), "outside"))

    def test_point_105_short_samples_of_12_words_of_12_letters_and_words_of_100(self):
        words = ["".join("ab"[number >> at & 1] for at in range(12)) for number in range(100, 3600, 146)]
        sample, outside = oracles.in_order(words[:12]), oracles.in_order(words[12:24])
        self.assertEqual((len(sample), len(outside)), (12, 12))
        for k in (0, 6, 12):
            for word in ("", "ab" * 50, "a" * 100):
                paper = verdict_paper("ab", sample, outside, k, word)
                self.assertIs(accepts_verdict("ab", sample, outside, k, word, paper), True)
            paper = apart_paper("ab", sample, outside, k)
            self.assertIs(accepts_apart("ab", sample, outside, k, paper), True)
        paper = least_apart_paper("ab", sample, outside)
        self.assertIs(accepts_least_apart("ab", sample, outside, paper), True)
        self.assertTrue(is_machine(paper[2]))
        self.assertEqual(verdict("ab", ("a" * 12,), (), 12, "a" * 100), "open")

    def test_point_103_a_word_in_both_samples(self):
        for k in range(13):
            self.assertIs(are_apart("ab", ("a", "bb"), ("b", "bb"), k), False)
            self.assertEqual(verdict("ab", ("a", "bb"), ("b", "bb"), k, "a"), "clash")
            paper = apart_paper("ab", ("a", "bb"), ("b", "bb"), k)
            self.assertEqual(paper[:2], ("clash", "bb"))
            self.assertIs(accepts_apart("ab", ("a", "bb"), ("b", "bb"), k, ("clash", "bb", (), ("", "b", "bb"))), True)

    def test_point_102_the_closure_is_the_least_language_that_fits(self):
        for sample, outside in SIDES[:40]:
            for k in (0, 1):
                if are_apart("ab", sample, outside, k):
                    made = closure("ab", sample, k)
                    for word in WORDS[:10]:
                        paper = verdict_paper("ab", sample, outside, k, word)
                        if paper[0] == "open":
                            self.assertEqual(common(paper[1], made), made)
                            self.assertIsNone(outside_word(made, paper[2]))
        self.assertGreater(len(joins_for("ab", SEEN, 0)), 0)


if __name__ == "__main__":
    unittest.main()
