"""Evidence that words must be in or are free, and evidence for all joins (points 54 to 60)."""

import itertools
import random
import unittest

from backseen.errors import TooLarge
from backseen.joining import classes, closure, is_must, seen_machine
from backseen.looking import has_property
from backseen.machines import is_least, machine_from, takes, tree_of
from backseen.papers import accepts_joins, accepts_paper, joins_for, paper_for
from backseen.words import beginnings
import oddities
import oracles
from oddities import chain, circle

SAMPLES = oracles.random_samples(54, 60, "ab", 5, 5) + [(), ("",), ("", "a"), ("a", "aaa"), ("aaa", "aaaaa")]
TWO = ("a", "ba", "bacd")
LOOKS = (0, 1, 2, 12)


def all_rows(letters, sample):
    """All rows that have words that are beginnings or are by one letter none, and all letters."""
    words = beginnings(letters, sample) + ("bbbbbb",)
    for u, v in itertools.product(words, repeat=2):
        yield ("ends", u, v)
        for letter in letters:
            yield ("on", u, v, letter)
            yield ("back", u, v, letter)


def joined_by(letters, sample, k, rows):
    """What good rows join, or None if one of them is not good, told plainly."""
    joined = []
    for row in rows:
        good, pair = oracles.is_good_row(letters, sample, k, joined, row)
        if not good:
            return None
        joined = oracles.join(joined, *pair)
    return joined


def is_complete(letters, sample, k, joined):
    """Whether the joined sets are the classes."""
    groups = {word: {word} for word in beginnings(letters, sample)}
    for group in joined:
        for word in group:
            groups[word] = group
    return {frozenset(group) for group in groups.values()} == {
        frozenset(members) for members in oracles.classes(letters, sample, k)
    }


class Joins(unittest.TestCase):
    def test_point_58_joins_for(self):
        for sample in SAMPLES:
            for k in LOOKS:
                rows = joins_for("ab", sample, k)
                self.assertIs(type(rows), tuple)
                self.assertIs(accepts_joins("ab", sample, k, rows), True)
                many = len(beginnings("ab", sample)) - len(classes("ab", sample, k))
                self.assertEqual(len(rows), many)
                joined = []
                for row in rows:
                    good, (u, v) = oracles.is_good_row("ab", sample, k, joined, row)
                    self.assertTrue(good)
                    self.assertFalse(u == v or any(u in group and v in group for group in joined))
                    joined = oracles.join(joined, u, v)
                self.assertTrue(is_complete("ab", sample, k, joined))

    def test_point_58_one_row_less(self):
        for sample in SAMPLES:
            for k in (0, 1):
                rows = joins_for("ab", sample, k)
                for at in range(len(rows)):
                    self.assertIs(accepts_joins("ab", sample, k, rows[:at] + rows[at + 1:]), False)

    def test_point_54_which_rows_are_good(self):
        for sample in SAMPLES[:12]:
            for k in (0, 1, 2):
                paper = joins_for("ab", sample, k)
                for at in range(len(paper) + 1):
                    start = joined_by("ab", sample, k, paper[:at])
                    for row in all_rows("ab", sample):
                        good, _ = oracles.is_good_row("ab", sample, k, start, row)
                        self.assertIs(accepts_joins("ab", sample, k, paper[:at] + (row,) + paper[at:]), good, row)

    def test_point_54_each_rule_by_its_own_name(self):
        # Behind the first row a and ba are joined: (back) joins the empty word and b, and (on) does nothing with them.
        rows = joins_for("abcd", TWO, 0)
        for row, told in (
            (("back", "", "b", "a"), True), (("on", "", "b", "a"), False), (("on", "a", "ba", "c"), False),
            (("back", "a", "ba", "c"), False), (("ends", "", "b"), False), (("ends", "a", "bacd"), True),
        ):
            self.assertIs(accepts_joins("abcd", TWO, 0, (("ends", "a", "ba"), row) + rows), told, row)
        sample = ("ab", "cb", "aba", "cba")
        for row, told in ((("on", "ab", "cb", "a"), True), (("back", "ab", "cb", "a"), False)):
            self.assertIs(accepts_joins("abc", sample, 1, (("ends", "ab", "cb"), row)), told)
        for row in (("ends", "a"), ("on", "a"), ("back", "a"), ("on", "a", "a"), ("back", "a", "a"), ("ends",), ()):
            self.assertIs(accepts_joins("abcd", TWO, 0, (row,) + rows), False)

    def test_point_54_and_58_rows_in_another_sequence(self):
        chance = random.Random(58)
        seen = {True: 0, False: 0}
        for sample in SAMPLES:
            for k in (0, 1):
                rows = list(joins_for("ab", sample, k))
                for _ in range(6):
                    chance.shuffle(rows)
                    told = joined_by("ab", sample, k, rows) is not None
                    seen[told] += len(rows) > 2
                    self.assertIs(accepts_joins("ab", sample, k, tuple(rows)), told)
        self.assertGreater(min(seen.values()), 20)

    def test_point_54_a_word_with_itself(self):
        sample = ("a", "ab")
        # (on) wants nothing of a word with itself but to be there; (ends) and (back) want k letters.
        for k, told in ((0, True), (1, True), (2, False), (3, False)):
            self.assertIs(
                accepts_joins("ab", sample, k, joins_for("ab", sample, k) + (("ends", "a", "a"),)), told or k == 1,
            )
            self.assertIs(
                accepts_joins("ab", sample, k, (("back", "a", "a", "b"),) + joins_for("ab", sample, k)), k < 2,
            )
            self.assertIs(accepts_joins("ab", sample, k, (("on", "a", "a", "b"),) + joins_for("ab", sample, k)), True)
            self.assertIs(accepts_joins("ab", sample, k, (("back", "", "", "a"),) + joins_for("ab", sample, k)), k < 1)
            self.assertIs(accepts_joins("ab", sample, k, (("on", "b", "b", "a"),) + joins_for("ab", sample, k)), False)
            self.assertIs(accepts_joins("ab", sample, k, (("ends", "", ""),) + joins_for("ab", sample, k)), False)

    def test_point_58_2500_rows_and_more(self):
        rows = joins_for("abcd", TWO, 0)
        full = rows + (("ends", "a", "bacd"),) * (2500 - len(rows))
        self.assertIs(accepts_joins("abcd", TWO, 0, full), True)
        self.assertIs(accepts_joins("abcd", TWO, 0, full + full[-1:]), False)
        way = ("", "", "b", "ba", "bac", "bacd")
        self.assertIs(accepts_paper("abcd", TWO, 0, "bbacd", ("must", full, way)), True)
        self.assertIs(accepts_paper("abcd", TWO, 0, "bbacd", ("must", full + full[-1:], way)), False)

    def test_point_58_nothing_to_join(self):
        for k in range(13):
            self.assertEqual(joins_for("ab", (), k), ())
            self.assertIs(accepts_joins("ab", (), k, ()), True)
            self.assertIs(accepts_joins("ab", (), k, (("ends", "", ""),)), False)
            self.assertIs(accepts_joins("ab", (), k, []), False)

    def test_point_54_forms_of_rows(self):
        rows = joins_for("abcd", TWO, 0)
        for row in rows:
            for changed in (
                list(row), row[:-1], row + ("a",), row + (None,), (row,), ("End",) + row[1:], (None,) + row[1:],
                row[:1] + (["a"],) + row[2:], row[:2] + (None,) + row[3:], row[:1] + row[2:], "ends", 0,
                row[:3] + ("",), row[:3] + ("ab",), row[:3] + ("z",), row[:3] + (0,), ("ends",) + row[1:] + ("a",),
            ):
                plain = type(changed) is tuple and len(changed) == 3 and changed[0] == "ends"
                if changed != row and not plain:
                    self.assertIs(accepts_joins("abcd", TWO, 0, (changed,) + rows), False, changed)
                    self.assertIs(accepts_joins("abcd", TWO, 0, rows + (changed,)), False, changed)
        self.assertIs(accepts_joins("abcd", TWO, 0, list(rows)), False)

    def test_point_53_samples_of_2000_letters(self):
        for sample, k in ((("a" * 999, "a" * 1001), 0), (("a" * 999, "a" * 1001), 12), (("ab" * 1000,), 3)):
            rows = joins_for("ab", sample, k)
            self.assertEqual(len(rows), len(beginnings("ab", sample)) - len(classes("ab", sample, k)))
            self.assertIs(accepts_joins("ab", sample, k, rows), True)
            if rows:
                self.assertIs(accepts_joins("ab", sample, k, rows[:-1]), False)


class Papers(unittest.TestCase):
    def test_point_57_paper_for(self):
        for sample in SAMPLES:
            for k in LOOKS:
                most = len(beginnings("ab", sample)) - len(classes("ab", sample, k))
                for word in oracles.all_words("ab", 4) + list(sample):
                    paper = paper_for("ab", sample, k, word)
                    self.assertIs(accepts_paper("ab", sample, k, word, paper), True)
                    if is_must("ab", sample, k, word):
                        self.assertEqual(paper[0], "must")
                        self.assertLessEqual(len(paper[1]), most)
                        self.assertEqual(len(paper[2]), len(word) + 1)
                    else:
                        self.assertEqual(paper, ("free", closure("ab", sample, k)))

    def test_point_57_never_both(self):
        for sample in SAMPLES[::2]:
            for k in (0, 1, 2):
                words = oracles.all_words("ab", 4)
                papers = [paper_for("ab", sample, k, word) for word in words]
                for word, paper in itertools.product(words[::2], papers):
                    told = accepts_paper("ab", sample, k, word, paper)
                    if paper[0] == "free":
                        self.assertIs(told, not takes(paper[1], word))
                    self.assertLessEqual(told, (paper[0] == "must") == is_must("ab", sample, k, word))

    def test_point_55_ways(self):
        rows = (("ends", "a", "ba"), ("back", "", "b", "a"))
        way = ("", "", "b", "ba", "bac", "bacd")
        word = "bbacd"

        def judge(*value):
            return accepts_paper("abcd", TWO, 0, word, value)

        self.assertIs(judge("must", rows, way), True)
        self.assertIs(judge("must", rows + (("ends", "bacd", "a"),), way), True)
        self.assertIs(judge("must", rows, ("b",) + way[1:]), False)
        self.assertIs(judge("must", rows[:1], way), False)
        self.assertIs(judge("must", rows[::-1], way), False)
        self.assertIs(judge("must", list(rows), way), False)
        self.assertIs(judge("must", rows, list(way)), False)
        self.assertIs(judge("must", rows, way[1:]), False)
        self.assertIs(judge("must", rows, way + ("bacd",)), False)
        self.assertIs(judge("must", rows, way, ()), False)
        self.assertIs(judge("free", rows, way), False)
        self.assertIs(judge("must", rows), False)
        self.assertIs(judge("must", ()), False)
        self.assertIs(judge("must"), False)
        self.assertIs(judge(), False)
        for name in ("open", "must not", "", "Must", None, 0, ("must",)):
            self.assertIs(judge(name, rows, way), False)
        for at in range(len(way)):
            for changed in ("", "b", "a", "ba", "bac", "bacd", "ac", "bb", None, ("a",), 0):
                value = ("must", rows, way[:at] + (changed,) + way[at + 1:])
                # The empty word and b are joined, and the letter a leads on from both.
                self.assertIs(judge(*value), changed == way[at] or (at, changed) == (2, ""), value)

    def test_point_55_other_ways_of_the_same_word(self):
        # The empty word and b are joined, and so are a, ba and bacd, if all joins are made.
        rows = joins_for("abcd", TWO, 0)
        firsts, lasts = {"": "", "b": ""}, ("a", "ba", "bacd")
        for word, way in itertools.product(("a", "ba", "bba"), itertools.product(beginnings("abcd", TWO), repeat=3)):
            value = ("must", rows, way[:len(word) + 1])
            told = len(word) == 2 and way[0] == "" and way[1] in firsts and way[2] in lasts and way[1] != "bac"
            if len(word) == 2:
                self.assertIs(accepts_paper("abcd", TWO, 0, word, value), told, way)
        self.assertIs(accepts_paper("abcd", TWO, 0, "a", ("must", rows, ("b", "bacd"))), True)
        self.assertIs(accepts_paper("abcd", TWO, 0, "a", ("must", (), ("", "a"))), True)
        self.assertIs(accepts_paper("abcd", TWO, 0, "a", ("must", (), ("", "ba"))), False)

    def test_point_55_the_last_one_is_a_word_of_the_sample(self):
        # The beginning aa is joined with the word a of the sample, but is none itself.
        sample = ("a", "aaa")
        rows = joins_for("a", sample, 0)
        self.assertEqual(classes("a", sample, 0), (("", "aa"), ("a", "aaa")))
        sample = ("", "aa", "aaaaa")
        rows = joins_for("a", sample, 0)
        self.assertEqual(len(classes("a", sample, 0)), 1)
        self.assertIs(accepts_paper("a", sample, 0, "a", ("must", rows, ("", "aa"))), True)
        for last in ("a", "aaa", "aaaa"):
            self.assertIs(accepts_paper("a", sample, 0, "a", ("must", rows, ("", last))), False)

    def test_point_56_machines_by_whomever(self):
        sample = ("", "aa")

        def judge(machine, word="aaa", k=0):
            return accepts_paper("a", sample, k, word, ("free", machine))

        self.assertIs(judge(circle("a", 2)), True)
        self.assertIs(judge(circle("a", 2), "aaaa"), False)
        for name in ("open", "", "Free", None, 0, ("free",)):
            self.assertIs(accepts_paper("a", sample, 0, "aaa", (name, circle("a", 2))), False)
        # Not least, and yet it has the property: behind b, what a leads to is doubled.
        machine = ("ab", ((1, 2), (None, 3), (None, None), (None, None)), (2, 3))
        self.assertFalse(is_least(machine))
        self.assertEqual([has_property(machine, k) for k in (0, 1, 2)], [False, False, True])
        for k in (0, 1, 2):
            told = accepts_paper("ab", ("b",), k, "a", ("free", machine))
            self.assertIs(told, k == 2)
        # Not least and without the property, though its language is of look 0.
        self.assertIs(judge(circle("a", 4, (0, 2))), False)
        # It does not take a word of the sample; it takes the word; it has other letters.
        self.assertIs(judge(circle("a", 3)), False)
        self.assertIs(judge(("a", ((0,),), (0,))), False)
        self.assertIs(judge(circle("ab", 2)), False)
        self.assertIs(judge(("a", (), ())), False)
        # Greater than the closure.
        greater = ("ab", ((1, 0), (0, 1)), (0,))
        self.assertIs(accepts_paper("ab", sample, 0, "ab", ("free", greater)), True)
        self.assertTrue(takes(greater, "b"))
        self.assertIs(accepts_paper("a", sample, 0, "aaa", ("free", circle("a", 2), ())), False)
        self.assertIs(accepts_paper("a", sample, 0, "aaa", ["free", circle("a", 2)]), False)
        self.assertIs(accepts_paper("a", sample, 0, "aaa", ("must", circle("a", 2))), False)
        self.assertIs(accepts_paper("a", (), 0, "", ("free", ("a", (), ()))), True)

    def test_point_56_the_seen_machine_is_evidence_too(self):
        for sample in SAMPLES:
            for k in LOOKS:
                machine = seen_machine("ab", sample, k)
                self.assertTrue(has_property(machine, k))
                for word in oracles.all_words("ab", 4):
                    told = accepts_paper("ab", sample, k, word, ("free", machine))
                    self.assertIs(told, not is_must("ab", sample, k, word))

    def test_point_55_evidence_with_one_item_or_letter_changed(self):
        chance = random.Random(55)
        for sample in SAMPLES:
            for k in (0, 1):
                for word in oracles.all_words("ab", 4):
                    if not is_must("ab", sample, k, word):
                        continue
                    _, rows, way = paper_for("ab", sample, k, word)
                    for _ in range(4):
                        changed_rows, changed_way = list(rows), list(way)
                        if rows and chance.random() < 0.5:
                            at = chance.randrange(len(rows))
                            row = list(rows[at])
                            item = chance.randrange(1, len(row))
                            row[item] = chance.choice((row[item] + "a", row[item][1:], "b", "a", ""))
                            changed_rows[at] = tuple(row)
                        else:
                            at = chance.randrange(len(way))
                            changed_way[at] = chance.choice(beginnings("ab", sample) + ("aaaaaaa",))
                        told = self.plainly(sample, k, word, changed_rows, changed_way)
                        value = ("must", tuple(changed_rows), tuple(changed_way))
                        self.assertIs(accepts_paper("ab", sample, k, word, value), told, (sample, k, word, value))

    def plainly(self, sample, k, word, rows, way):
        """Whether rows and way are evidence that a word must be in, told plainly."""
        if any(len(row) == 4 and len(row[3]) != 1 for row in rows):
            return False
        joined = joined_by("ab", sample, k, rows)
        words = beginnings("ab", sample)
        if joined is None or any(item not in words for item in way):
            return False

        def together(u, v):
            return u == v or any(u in group and v in group for group in joined)

        for at, letter in enumerate(word):
            if way[at] + letter not in words or not together(way[at] + letter, way[at + 1]):
                return False
        return together(way[0], "") and way[-1] in sample

    def test_point_53_and_57_closures_of_400_states_and_more(self):
        for k in (0, 5, 12):
            paper = paper_for("ab", ("a" * 399,), k, "b")
            self.assertEqual(paper, ("free", chain("ab", 400)))
            self.assertIs(accepts_paper("ab", ("a" * 399,), k, "b", paper), True)
            with self.assertRaises(TooLarge) as caught:
                paper_for("ab", ("a" * 400,), k, "b")
            self.assertEqual(caught.exception.what, "states")
            self.assertEqual(paper_for("ab", ("a" * 400,), k, "a" * 400)[0], "must")
            # The least machine of the closure is too large, and yet there can be evidence by whomever.
            self.assertIs(accepts_paper("ab", ("a" * 400,), k, "b", ("free", ("ab", ((0, None),), (0,)))), True)

    def test_point_57_large_samples(self):
        sample = ("a" * 999, "a" * 1000)
        for k in (0, 12):
            for many in (500, 499, 12, 11, 0):
                word = "a" * many
                paper = None
                if is_must("a", sample, k, word):
                    paper = paper_for("a", sample, k, word)
                    self.assertIs(accepts_paper("a", sample, k, word, paper), True)
                    self.assertIs(accepts_paper("a", sample, k, word, ("must", paper[1][1:], paper[2])), False)
                self.assertEqual(paper is None, k == 12 and many < 12)

    def test_point_8_and_59_values_of_any_kind(self):
        for word in ("", "a", "bbacd", "ab"):
            oddities.check_judge(
                self, lambda value: accepts_paper("abcd", TWO, 0, word, value),
                [("must", (), ()), ("must", ((),), ((),)), ("must", (("ends",),), ("",)), ("free", ("abcd", (), ()))],
            )
        oddities.check_judge(self, lambda value: accepts_joins("abcd", TWO, 0, value))
        for odd in oddities.oddities():
            for row in (
                ("ends", odd, "a"), ("on", "a", odd, "a"), ("back", "a", "a", odd), (odd, "a", "a"), (odd,) * 4,
            ):
                self.assertIs(accepts_joins("abcd", TWO, 0, joins_for("abcd", TWO, 0) + (row,)), False)


class Wrong(unittest.TestCase):
    def test_point_59_wrong_arguments(self):
        wrong = {
            "letters": oddities.LETTERS, "sample": oddities.SAMPLES, "k": oddities.LOOKS,
            "word": oddities.ASKED_WORDS,
        }
        names = ("letters", "sample", "k", "word")
        oddities.check_wrong(self, paper_for, names, ("ab", ("a",), 1, "b"), wrong)
        oddities.check_wrong(self, joins_for, names[:3], ("ab", ("a",), 1), wrong)
        oddities.check_wrong(
            self, lambda letters, sample, k, word: accepts_paper(letters, sample, k, word, None), names,
            ("ab", ("a",), 1, "b"), wrong,
        )
        oddities.check_wrong(
            self, lambda letters, sample, k: accepts_joins(letters, sample, k, None), names[:3], ("ab", ("a",), 1),
            wrong,
        )

    def test_point_59_ahead_of_too_large(self):
        for word in ("c", "b" * 501, None):
            self.assertTrue(oddities.is_refused(paper_for, ("ab", ("a" * 400,), 0, word), "word"))
        self.assertTrue(oddities.is_refused(paper_for, ("ab", ("a" * 400,), True, "b"), "k"))

    def test_point_9_machines_from_tables_are_evidence_if_they_have_the_property(self):
        machine = machine_from("ab", ((1, None), (None, 0)), (0,), 0)
        self.assertIs(accepts_paper("ab", ("ab",), 0, "a", ("free", machine)), True)
        self.assertIs(accepts_paper("ab", ("ab",), 0, "a", ("free", tree_of("ab", ("ab",)))), True)


if __name__ == "__main__":
    unittest.main()
