"""Towers of verdicts and their evidence (points 113 to 116)."""

import random
import unittest

from backseen.joining import closure
from backseen.sides import accepts_apart, accepts_verdict, apart_paper, least_apart, verdict, verdict_paper
from backseen.towers import accepts_tower, tower, tower_paper
import oddities
import oracles

chance = random.Random(113)
SIDES = [
    (oracles.random_sample(chance, "ab", 4, 4), oracles.random_sample(chance, "ab", 3, 4)) for _ in range(70)
] + [((), ()), ((), ("", "a")), (("a",), ()), (("a",), ("",)), (("",), ("",)), (("", "aa"), ("a",))]
WORDS = oracles.all_words("ab", 3) + ["abba", "babab", "b" * 12, "ab" * 50]
SEEN, OUT, MACHINE = ("ab", "abb"), ("a", "ba"), ("ab", ((1, None), (None, 2), (None, 2)), (2,))
CLASH = ("clash", "a", (("ends", "ab", "abb"), ("back", "a", "ab", "b")), ("", "ab"))
KEPT = ("must", (("ends", "ab", "abb"),), ("", "a", "ab", "ab", "ab"))
FREE = ("open", MACHINE, ("ab", ((1, None), (None, 2), (None, 3), (None, None)), (2, 3)))
RIGHT = ("tower", 1, 1, CLASH, ("apart", MACHINE), KEPT, FREE)
NAMES = ("tower", "never", "apart", "clash", "must", "open")


def is_right(sample, outside, word, value):
    """Whether evidence of the form of a tower is right, by the judges of its pieces."""
    _, least, last, clash, apart, kept, free = value
    if not 0 <= least <= 12 or not least - 1 <= last <= 12:
        return False
    good = clash == () if least == 0 else clash != () and clash[0] == "clash" and accepts_apart(
        "ab", sample, outside, least - 1, clash,
    )
    good = good and apart != () and apart[0] == "apart" and accepts_apart("ab", sample, outside, least, apart)
    if last == least - 1:
        good = good and kept == ()
    else:
        good = good and kept != () and kept[0] in ("must", "must not") and accepts_verdict(
            "ab", sample, outside, last, word, kept,
        )
    if last == 12:
        return good and free == ()
    return good and free != () and free[0] == "open" and accepts_verdict("ab", sample, outside, last + 1, word, free)


class Towers(unittest.TestCase):
    def test_point_113_the_verdicts(self):
        kinds = set()
        for sample, outside in SIDES:
            for word in WORDS:
                told = tower("ab", sample, outside, word)
                self.assertEqual(told, tuple(verdict("ab", sample, outside, k, word) for k in range(13)))
                least = least_apart("ab", sample, outside)
                self.assertEqual(told.count("clash"), 13 if least is None else least)
                self.assertFalse("must" in told and "must not" in told)
                order = [("clash", "must", "must not", "open").index(item) for item in told]
                self.assertEqual(order, sorted(order))
                if least is not None:
                    if word in sample:
                        self.assertEqual(set(told[least:]), {"must"})
                    elif word in outside:
                        self.assertEqual(set(told[least:]), {"must not"})
                    else:
                        self.assertEqual(told[12], "open")
                kinds.add(tuple(item for at, item in enumerate(told) if at == 0 or told[at - 1] != item))
        self.assertGreaterEqual(len(kinds), 9)

    def test_point_114_evidence_of_exactly_one_word(self):
        for sample, outside in SIDES:
            for word in WORDS:
                paper = tower_paper("ab", sample, outside, word)
                self.assertIs(accepts_tower("ab", sample, outside, word, paper), True)
                both = oracles.in_order(set(sample) & set(outside))
                if both:
                    self.assertEqual(paper, ("never", both[0]))
                    continue
                told = tower("ab", sample, outside, word)
                self.assertEqual(paper[1], told.count("clash"))
                self.assertEqual(paper[2], 12 - told.count("open"))
                self.assertTrue(is_right(sample, outside, word, paper))
                if paper[2] >= paper[1]:
                    self.assertEqual(paper[5][0], told[paper[1]])

    def test_point_114_pieces_of_other_evidence(self):
        told = {True: 0, False: 0}
        for sample, outside in SIDES:
            if set(sample) & set(outside):
                continue
            for word in WORDS[:8]:
                right = tower_paper("ab", sample, outside, word)
                for _ in range(6):
                    least, last = right[1] + chance.choice((0, 0, -1, 1)), right[2] + chance.choice((0, 0, -1, 1))
                    pieces = [
                        () if least <= 0 or least > 13 else apart_paper("ab", sample, outside, least - 1),
                        apart_paper("ab", sample, outside, min(max(least, 0), 12)),
                        verdict_paper("ab", sample, outside, min(max(last, 0), 12), word) if last >= least else (),
                        verdict_paper("ab", sample, outside, last + 1, word) if -1 <= last < 12 else (),
                    ]
                    if chance.random() < 0.3:
                        pieces[chance.randrange(4)] = chance.choice(((), right[3], right[4], right[5], right[6]))
                    value = ("tower", least, last) + tuple(pieces)
                    good = is_right(sample, outside, word, value)
                    told[good] += 1
                    self.assertIs(accepts_tower("ab", sample, outside, word, value), good, value)
                    if good:
                        self.assertEqual(value[1:3], right[1:3])
        self.assertGreater(min(told.values()), 100)

    def test_point_114_evidence_by_whomever(self):
        def judge(*value):
            return accepts_tower("ab", SEEN, OUT, "abbb", value)

        self.assertIs(judge(*RIGHT), True)
        more = ("must", KEPT[1] + (("ends", "abb", "ab"), ("on", "", "", "a")), KEPT[2][:3] + ("abb", "ab"))
        self.assertIs(judge(*RIGHT[:5], ("must", more[1], KEPT[2]), FREE), True)
        self.assertIs(judge(*RIGHT[:5], more, FREE), False)
        self.assertIs(judge(*RIGHT[:4], ("apart", closure("ab", SEEN, 1)), KEPT, FREE), True)
        self.assertIs(judge(*RIGHT[:6], verdict_paper("ab", SEEN, OUT, 2, "abbb")), True)
        for value in (
            ("tower", 0, 1) + RIGHT[3:], ("tower", 1, 0) + RIGHT[3:], ("tower", 1, 2) + RIGHT[3:],
            ("tower", 2, 1) + RIGHT[3:],
            ("tower", True, 1) + RIGHT[3:], ("tower", 1, True) + RIGHT[3:], ("tower", 1, 13) + RIGHT[3:],
            ("tower", 13, 13) + RIGHT[3:],
            ("tower", 1, None) + RIGHT[3:], ("tower", -1, 1) + RIGHT[3:], ("tower", 1, -1) + RIGHT[3:],
            ("Tower",) + RIGHT[1:], RIGHT[:6],
            RIGHT + ((),), list(RIGHT), ("tower", 1, 1, (), ("apart", MACHINE), KEPT, FREE),
            ("tower", 1, 1, CLASH, (), KEPT, FREE),
            ("tower", 1, 1, CLASH, MACHINE, KEPT, FREE), ("tower", 1, 1, CLASH, ("apart", MACHINE), (), FREE),
            ("tower", 1, 1, CLASH, ("apart", MACHINE), KEPT, ()),
            ("tower", 1, 1, CLASH, ("apart", MACHINE), FREE, KEPT),
            ("tower", 1, 1, ("apart", MACHINE), CLASH, KEPT, FREE),
            ("tower", 1, 0, CLASH, ("apart", MACHINE), (), FREE),
            ("tower", 1, 12, CLASH, ("apart", MACHINE), KEPT, ()),
            ("tower", 1, 1, list(CLASH), ("apart", MACHINE), KEPT, FREE),
            ("tower", 1, 1, CLASH, ("apart", MACHINE), KEPT, ("apart", MACHINE)), ("never", "a"), ("never", "ab"),
            ("never",),
            ("tower", 1, 1, CLASH, CLASH, KEPT, FREE), ("tower", 1, 1, CLASH, ("apart", MACHINE), CLASH, FREE),
        ):
            told = accepts_tower("ab", SEEN, OUT, "abbb", value)
            self.assertIs(told, False, value)
        for n in ("abb", "ab", "b"):
            self.assertIs(accepts_tower("ab", SEEN, ("b", "abb"), "a", ("never", n)), n == "abb")
        self.assertIs(accepts_tower("ab", SEEN, ("b", "abb"), "a", ("never", "abb", ())), False)
        self.assertIs(accepts_tower("ab", SEEN, ("b", "abb"), "a", ["never", "abb"]), False)

    def test_point_114_the_pieces_that_are_not_there(self):
        apart = apart_paper("ab", ("a",), (), 0)
        kept = verdict_paper("ab", ("a",), (), 12, "a")
        free = verdict_paper("ab", ("a",), (), 0, "b")
        self.assertIs(accepts_tower("ab", ("a",), (), "a", ("tower", 0, 12, (), apart, kept, ())), True)
        self.assertIs(accepts_tower("ab", ("a",), (), "b", ("tower", 0, -1, (), apart, (), free)), True)
        for odd in ([], None, 0, "", (None,), False, free):
            self.assertIs(accepts_tower("ab", ("a",), (), "a", ("tower", 0, 12, odd, apart, kept, ())), False)
            self.assertIs(accepts_tower("ab", ("a",), (), "a", ("tower", 0, 12, (), apart, kept, odd)), False)
            self.assertIs(accepts_tower("ab", ("a",), (), "b", ("tower", 0, -1, odd, apart, (), free)), False)
            self.assertIs(accepts_tower("ab", ("a",), (), "b", ("tower", 0, -1, (), apart, odd, free)), False)
        # What must be in at 11 need not be at 12, and so this alone shows nothing.
        self.assertIs(accepts_tower("ab", ("a",), (), "a", ("tower", 0, 11, (), apart, kept, ())), False)

    def test_points_114_and_8_values_of_any_kind(self):
        more = [("tower",) + ((),) * 6, ("tower", 0, -1, (), (), (), ()), ("tower", 0, 12, (), (), (), ())]
        for sample, outside in ((SEEN, OUT), (SEEN, ("ab",)), ((), ())):
            oddities.check_judge(self, lambda value: accepts_tower("ab", sample, outside, "abbb", value), more, NAMES)
        for odd in oddities.oddities():
            for at in range(7):
                if not (at in (1, 2) and odd is True):
                    self.assertIs(accepts_tower("ab", SEEN, OUT, "abbb", RIGHT[:at] + (odd,) + RIGHT[at + 1:]), False)

    def test_point_115_wrong_arguments(self):
        wrong = {
            "letters": oddities.LETTERS, "sample": oddities.SHORT_SAMPLES, "outside": oddities.SHORT_SAMPLES,
            "word": oddities.WORDS + ["a" * 101, "ab" * 51],
        }
        names, right = ("letters", "sample", "outside", "word"), ("ab", ("a",), ("b",), "ab")
        for function in (tower, tower_paper, lambda *rest: accepts_tower(*rest, None)):
            oddities.check_wrong(self, function, names, right, wrong)
        self.assertEqual(tower("ab", ("a",), ("b",), "a" * 100), ("open",) * 13)

    def test_point_116_example(self):
        self.assertEqual(apart_paper("ab", SEEN, OUT, 0)[:2], ("clash", "a"))
        self.assertEqual(least_apart("ab", SEEN, OUT), 1)
        self.assertEqual(
            [verdict("ab", SEEN, OUT, 1, word) for word in ("abbb", "ba", "aab")], ["must", "must not", "open"],
        )
        self.assertEqual(tower("ab", SEEN, OUT, "abbb"), ("clash", "must") + ("open",) * 11)
        self.assertEqual(closure("ab", SEEN, 1), MACHINE)


if __name__ == "__main__":
    unittest.main()
