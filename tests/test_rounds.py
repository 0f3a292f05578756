"""Rounds and rows (points 62 to 70)."""

import random
import unittest

from backseen.counting import count_up_to, nth_word
from backseen.errors import NotPossible, TooLarge
from backseen.joining import closure, is_must
from backseen.rounds import accepts_rows, rounds, rows_for, words_by_round
import oddities
import oracles

SAMPLES = oracles.random_samples(62, 30, "ab", 4, 4) + [(), ("",), ("", "aa"), ("aaa", "aaaaa"), ("aaaa", "aaaaa")]
LINES = ("", "a", "b", "aa", "ab", "bb")
ONE = ("ab", "cb", "aba")
ROWS = (("seen", "ab"), ("seen", "cb"), ("seen", "aba"), ("by", 0, 1, 2, 2))


def longest(sample):
    return max(map(len, sample), default=0)


def what_of(case, function, *arguments):
    with case.assertRaises(TooLarge) as caught:
        function(*arguments)
    return caught.exception.what


def plainly(sample, k, word, rows):
    """Whether rows of the right forms are evidence for the word, told plainly."""
    words = []
    for at, row in enumerate(rows):
        if row[0] == "seen":
            if row[1] not in sample:
                return False
            words.append(row[1])
            continue
        _, a, b, c, i = row
        if not all(0 <= number < at for number in (a, b, c)) or not k <= i <= len(words[a]):
            return False
        p, w = words[a][:i], words[a][i:]
        if words[c][:i] != p or (w and words[b][-len(w):] != w):
            return False
        q = words[b][:len(words[b]) - len(w)]
        if not oracles.alike(p, q, k):
            return False
        words.append(q + words[c][i:])
    limit = max(len(word), longest(sample))
    return bool(words) and words[-1] == word and all(len(made) <= limit for made in words)


class Rounds(unittest.TestCase):
    def test_point_62_and_63_rounds_by_steps(self):
        for sample in SAMPLES:
            for k in (0, 1, 2, 3):
                for more in (0, 1, 3):
                    most = longest(sample) + more
                    try:
                        found = words_by_round("ab", sample, k, most)
                    except TooLarge:
                        continue
                    if sum(map(len, found)) > 40:
                        continue
                    self.assertEqual(found, oracles.rounds(sample, k, most), (sample, k, most))

    def test_point_63_and_64_the_words_of_all_rounds(self):
        for sample in SAMPLES:
            for k in (0, 1, 2, 12):
                for most in (longest(sample), 7):
                    many = count_up_to(closure("ab", sample, k), most)
                    found = rounds("ab", sample, k, most)
                    self.assertEqual(len(found), many)
                    self.assertEqual(
                        found, tuple(word for word in oracles.all_words("ab", most) if is_must("ab", sample, k, word))
                    )
                    by_round = words_by_round("ab", sample, k, most)
                    self.assertEqual(oracles.in_order(word for words in by_round for word in words), found)
                    self.assertEqual(sum(map(len, by_round)), many)
                    self.assertEqual(by_round[0], sample)
                    for words in by_round[1:]:
                        self.assertTrue(words)
                        self.assertEqual(words, oracles.in_order(words))

    def test_point_63_the_sample_without_words(self):
        for most in (0, 1, 24):
            self.assertEqual(words_by_round("ab", (), 0, most), ((),))
            self.assertEqual(rounds("ab", (), 0, most), ())
        for function in (rounds, words_by_round):
            self.assertTrue(oddities.is_refused(function, ("ab", (), 0, -1), "most"))

    def test_point_63_most_at_its_edges(self):
        for sample in (("",), ("a",), ("b", "a" * 12), LINES):
            for function in (rounds, words_by_round):
                least = longest(sample)
                for most in (least, 24):
                    if count_up_to(closure("ab", sample, 1), most) <= 300:
                        function("ab", sample, 1, most)
                for most in (least - 1, 25, -1, True, None, float(least)):
                    self.assertTrue(oddities.is_refused(function, ("ab", sample, 1, most), "most"))
        self.assertEqual(rounds("a", ("", "a"), 0, 24), tuple("a" * many for many in range(25)))

    def test_point_64_the_round_of_a_word_can_depend_on_most(self):
        sample = ("aaaa", "aaaaa")
        self.assertEqual([("" in words) for words in words_by_round("a", sample, 0, 5)], [False, False, False, True])
        self.assertEqual([("" in words) for words in words_by_round("a", sample, 0, 8)], [False, False, True])

    def test_point_65_exactly_300_words_and_more(self):
        self.assertEqual(count_up_to(closure("ab", LINES, 1), 23), 300)
        found = rounds("ab", LINES, 1, 23)
        self.assertEqual(found, oracles.in_order("a" * i + "b" * j for i in range(24) for j in range(24 - i)))
        by_round = words_by_round("ab", LINES, 1, 23)
        self.assertEqual(oracles.in_order(word for words in by_round for word in words), found)
        for function in (rounds, words_by_round):
            self.assertEqual(what_of(self, function, "ab", LINES, 1, 24), "words")
            self.assertEqual(what_of(self, function, "abcd", ("", "a", "b", "c", "d"), 0, 24), "words")
            self.assertEqual(what_of(self, function, "ab", ("", "a", "b"), 0, 8), "words")
        # One word more, which is alike to none: 301 words.
        more = ("", "a", "b", "c", "aa", "ab", "bb")
        self.assertEqual(count_up_to(closure("abc", more, 1), 23), 301)
        self.assertEqual(len(rounds("abc", more, 1, 22)), 277)
        for function in (rounds, words_by_round):
            self.assertEqual(what_of(self, function, "abc", more, 1, 23), "words")
        self.assertEqual(len(rounds("ab", ("", "a", "b"), 0, 7)), 255)
        self.assertEqual([len(words) for words in words_by_round("ab", ("", "a", "b"), 0, 7)], [3, 4, 24, 224])

    def test_point_63_short_samples_of_12_words_of_12_letters(self):
        sample = tuple(oracles.all_words("ab", 12)[-12:])
        self.assertEqual(words_by_round("ab", sample, 12, 12), (sample,))
        self.assertEqual(rounds("ab", sample, 12, 24), sample)
        chance = random.Random(63)
        for _ in range(10):
            words = {"".join(chance.choice("ab") for _ in range(12)) for _ in range(12)}
            sample = oracles.in_order(words)
            for k in (4, 6):
                many = count_up_to(closure("ab", sample, k), 12)
                if many <= 300:
                    found = words_by_round("ab", sample, k, 12)
                    self.assertEqual(oracles.in_order(word for part in found for word in part),
                                     rounds("ab", sample, k, 12))
                    self.assertEqual(sum(map(len, found)), many)

    def test_point_70_examples(self):
        self.assertEqual(words_by_round("abc", ONE, 1, 3), (ONE, ("cba",)))
        self.assertEqual(words_by_round("a", ("", "aa"), 0, 6), (("", "aa"), ("aaaa",), ("aaaaaa",)))
        self.assertIn("a", words_by_round("a", ("aaa", "aaaaa"), 0, 5)[1])
        self.assertEqual(words_by_round("a", ("aaa",), 0, 24), (("aaa",),))


class Rows(unittest.TestCase):
    def test_point_66_to_68_rows_for_the_words_of_small_closures(self):
        for sample in SAMPLES + oracles.random_samples(68, 20, "ab", 6, 6):
            for k in (0, 1, 2):
                for word in oracles.all_words("ab", 5) + list(sample):
                    if is_must("ab", sample, k, word):
                        rows = rows_for("ab", sample, k, word)
                        self.assertIs(accepts_rows("ab", sample, k, word, rows), True)
                        self.assertIs(plainly(sample, k, word, rows), True)
                    else:
                        with self.assertRaises(NotPossible) as caught:
                            rows_for("ab", sample, k, word)
                        self.assertEqual(caught.exception.why, "word")

    def test_point_68_long_words_of_large_closures(self):
        chance = random.Random(168)
        for _ in range(150):
            letters = chance.choice(("a", "ab", "abc", "abcd"))
            words = {
                "".join(chance.choice(letters) for _ in range(chance.choice((12, 12, chance.randint(0, 12)))))
                for _ in range(12)
            }
            sample = oracles.in_order(words)
            k = chance.choice((0, 0, 0, 1, 1, 2, 3, 4))
            machine = closure(letters, sample, k)
            for most in (12, 24):
                word = nth_word(machine, chance.randrange(count_up_to(machine, most)))
                rows = rows_for(letters, sample, k, word)
                self.assertLess(len(rows), 2100)
                self.assertIs(accepts_rows(letters, sample, k, word, rows), True)

    def test_point_68_many_letters_and_any_word(self):
        chance = random.Random(169)
        for letters in ("a", "ab", "abc", "abcd"):
            sample = ("",) + tuple(letters)
            for _ in range(20):
                word = "".join(chance.choice(letters) for _ in range(24))
                self.assertIs(accepts_rows(letters, sample, 0, word, rows_for(letters, sample, 0, word)), True)

    def test_point_67_and_68_words_as_short_as_can_be(self):
        # The rests become shorter in many steps: each a word that is by one letter shorter.
        for many in range(2, 13):
            sample = ("a" * (many - 1), "a" * many)
            for length in range(25):
                rows = rows_for("a", sample, 0, "a" * length)
                self.assertIs(accepts_rows("a", sample, 0, "a" * length, rows), True)
        sample = oracles.in_order("a" * at + "b" * (12 - at) for at in range(12))
        for k in (0, 1, 2):
            for word in ("a" * 12 + "b" * 12, "b" * 12, "ab", "a" * 20 + "bb"):
                if is_must("ab", sample, k, word):
                    self.assertIs(accepts_rows("ab", sample, k, word, rows_for("ab", sample, k, word)), True)

    def test_point_67_and_68_rests_in_the_closure_shorter_than_those_in_the_sample(self):
        # Behind c stands cb in the sample, but c in the closure: cc brings back to the beginning.
        for word in oracles.all_words("bc", 8):
            if is_must("bc", ("", "b", "ccb"), 0, word):
                rows = rows_for("bc", ("", "b", "ccb"), 0, word)
                self.assertIs(plainly(("", "b", "ccb"), 0, word, rows), True)
                self.assertIs(accepts_rows("bc", ("", "b", "ccb"), 0, word, rows), True)
        for sample, k in (
            (("", "b", "abab", "baabb"), 0), (("", "b", "aab", "bbb", "babab"), 0), (("b", "ba", "bbab", "bbba"), 1),
            (("ba", "aba", "baa"), 0), (("ba", "baa", "aabba"), 0),
        ):
            for word in oracles.all_words("ab", 7):
                if is_must("ab", sample, k, word):
                    rows = rows_for("ab", sample, k, word)
                    self.assertIs(accepts_rows("ab", sample, k, word, rows), True)
        for sample in oracles.random_samples(67, 60, "abc", 4, 4):
            for k in (0, 1):
                for word in oracles.all_words("abc", 6)[::5]:
                    if is_must("abc", sample, k, word):
                        rows = rows_for("abc", sample, k, word)
                        self.assertIs(accepts_rows("abc", sample, k, word, rows), True)

    def test_point_68_a_word_of_the_sample_needs_one_row(self):
        for word in ONE:
            self.assertEqual(rows_for("abc", ONE, 1, word), (("seen", word),))

    def test_point_66_rows_by_whomever(self):
        for rows, told in (
            (ROWS, True),
            (ROWS[:3] + (("seen", "ab"), ("by", 3, 1, 2, 2)), True),
            ((ROWS[2], ROWS[1], ROWS[0], ("by", 2, 1, 0, 2)), True),
            (ROWS[:3] + ROWS[3:] + ROWS[:3] + ROWS[3:], True),
            (ROWS + ROWS[:1], False),
            (ROWS[:3], False),
            (ROWS[3:], False),
            (ROWS[:3] + (("by", 0, 1, 2, 1),), False),
            (ROWS[:3] + (("by", 0, 1, 2, 3),), False),
            (ROWS[:3] + (("by", 0, 1, 2, 0),), False),
            (ROWS[:3] + (("by", 1, 0, 2, 2),), False),
            (ROWS[:3] + (("by", 0, 1, 3, 2),), False),
            (ROWS[:3] + (("by", -3, 1, 2, 2),), False),
            (ROWS[:3] + (("by", False, 1, 2, 2),), False),
            (ROWS[:3] + (("by", 0, True, 2, 2),), False),
            (ROWS[:3] + (("by", 0, 1, 2, 2, 0),), False),
            (ROWS[:3] + (("by", 0, 1, 2),), False),
            (ROWS[:3] + (["by", 0, 1, 2, 2],), False),
            (ROWS[:3] + (("seen", "cba"),), False),
            (ROWS[:3] + (("seen", "cba", ""),), False),
            ((("seen", "ab", ""),) + ROWS, False),
            ((("seen",),) + ROWS, False),
            (ROWS[:3] + (("seen", "ab", ""),) + ROWS[3:], False),
            (ROWS[:3] + (("seen",),) + ROWS[3:], False),
            (((),) + ROWS, False),
            ((("by", "ab"),) + ROWS, False),
            (ROWS[:3] + (("seen", "ab"),) * 2 + (("by", 0, 1, 2, 2),), True),
            (ROWS[:3] + (("on", 0, 1, 2, 2),), False),
            (list(ROWS), False),
            ((), False),
        ):
            self.assertIs(accepts_rows("abc", ONE, 1, "cba", rows), told, rows)
        self.assertIs(accepts_rows("abc", ONE, 2, "cba", ROWS), False)
        self.assertIs(accepts_rows("abc", ONE, 0, "cba", ROWS), True)
        self.assertIs(accepts_rows("abc", ONE, 1, "ab", ROWS[:1]), True)
        self.assertIs(accepts_rows("abc", ONE, 1, "ab", (("by", 0, 0, 0, 1),)), False)

    def test_point_66_steps_with_one_word_three_times(self):
        for at in range(3):
            rows = (("seen", "ab"), ("by", 0, 0, 0, at))
            for k in (0, 1, 2):
                self.assertIs(accepts_rows("ab", ("ab",), k, "ab", rows), at >= k)

    def test_point_67_no_row_has_a_longer_word(self):
        rows = (("seen", ""), ("seen", "aa"), ("by", 0, 1, 1, 0), ("by", 1, 0, 0, 2))
        self.assertIs(accepts_rows("a", ("", "aa"), 0, "aaaa", rows[:3]), True)
        self.assertIs(accepts_rows("a", ("", "aa"), 0, "", rows[:3] + (("seen", ""),)), False)
        self.assertIs(accepts_rows("a", ("", "aa"), 0, "aaaa", rows[:3] + (("by", 0, 1, 1, 0),)), True)
        self.assertIs(accepts_rows("a", ("", "aa"), 0, "aaaaaa", rows[:3] + (("by", 0, 1, 2, 0),)), True)
        self.assertIs(
            accepts_rows("a", ("", "aa"), 0, "aaaa", rows[:3] + (("by", 0, 1, 2, 0), ("by", 0, 1, 1, 0))), False,
        )
        # A word of the sample may be longer than the word that is asked.
        self.assertIs(
            accepts_rows("a", ("aaa", "aaaaa"), 0, "a", (("seen", "aaa"), ("seen", "aaaaa"), ("by", 1, 0, 0, 3))), True,
        )

    def test_point_67_2500_rows_and_more(self):
        rows = ROWS[:1] * 2496 + ROWS[:3] + (("by", 2496, 2497, 2498, 2),)
        self.assertEqual(len(rows), 2500)
        self.assertIs(accepts_rows("abc", ONE, 1, "cba", rows), True)
        more = ROWS[:1] * 2497 + ROWS[:3] + (("by", 2497, 2498, 2499, 2),)
        self.assertIs(accepts_rows("abc", ONE, 1, "cba", more), False)

    def test_point_66_changed_rows_are_judged_by_what_they_are(self):
        chance = random.Random(66)
        seen = {True: 0, False: 0}
        for sample in SAMPLES:
            for k in (0, 1):
                for word in oracles.all_words("ab", 5)[::2]:
                    if not is_must("ab", sample, k, word):
                        continue
                    rows = rows_for("ab", sample, k, word)
                    for _ in range(5):
                        changed = list(rows)
                        at = chance.randrange(len(changed))
                        row = list(changed[at])
                        item = chance.randrange(1, len(row))
                        if row[0] == "seen":
                            row[item] = chance.choice((row[item] + "a", row[item][1:]) + sample)
                        else:
                            row[item] += chance.choice((-1, 1, 2))
                        changed[at] = tuple(row)
                        if chance.random() < 0.3:
                            changed.insert(chance.randrange(len(changed)), chance.choice(rows))
                        told = plainly(sample, k, word, changed)
                        seen[told] += 1
                        self.assertIs(accepts_rows("ab", sample, k, word, tuple(changed)), told)
        self.assertGreater(min(seen.values()), 50)

    def test_point_68_no_rows_for_free_words(self):
        for word in oracles.all_words("abc", 3):
            told = word in ONE + ("cba",)
            self.assertIs(is_must("abc", ONE, 1, word), told)
            self.assertIs(accepts_rows("abc", ONE, 1, word, ROWS), word == "cba")

    def test_point_69_words_of_24_letters_and_of_25(self):
        sample = ("", "a")
        rows = rows_for("a", sample, 0, "a" * 24)
        self.assertIs(accepts_rows("a", sample, 0, "a" * 24, rows), True)
        for function, more in ((rows_for, ()), (accepts_rows, (rows,))):
            self.assertTrue(oddities.is_refused(function, ("a", sample, 0, "a" * 25) + more, "word"))
            self.assertTrue(oddities.is_refused(function, ("a", sample, 0, "b") + more, "word"))

    def test_point_68_the_sample_without_words(self):
        with self.assertRaises(NotPossible):
            rows_for("a", (), 0, "")
        self.assertIs(accepts_rows("a", (), 0, "", ()), False)
        self.assertIs(accepts_rows("a", (), 0, "", (("seen", ""),)), False)

    def test_point_8_and_66_values_of_any_kind(self):
        oddities.check_judge(self, lambda value: accepts_rows("abc", ONE, 1, "cba", value))
        for odd in oddities.oddities() + [None]:
            for row in (
                odd, ("seen", odd), (odd, "ab"), ("by", odd, 1, 2, 2), ("by", 0, odd, 2, 2), ("by", 0, 1, odd, 2),
                ("by", 0, 1, 2, odd), (odd, 0, 1, 2, 2), (odd,) * 5, (odd,) * 2,
            ):
                self.assertIs(accepts_rows("abc", ONE, 1, "cba", ROWS[:3] + (row,) + ROWS[3:]), False)


class Wrong(unittest.TestCase):
    def test_point_69_wrong_arguments(self):
        wrong = {
            "letters": oddities.LETTERS, "sample": oddities.SHORT_SAMPLES, "k": oddities.LOOKS,
            "word": oddities.WORDS + ["a" * 25], "most": [None, "3", 0, 25, -1, 3.0, (3,), 10 ** 30],
        }
        names = ("letters", "sample", "k")
        for function in (rounds, words_by_round):
            oddities.check_wrong(self, function, names + ("most",), ("ab", ("a",), 1, 3), wrong)
        oddities.check_wrong(self, rows_for, names + ("word",), ("ab", ("a",), 1, "a"), wrong)
        oddities.check_wrong(
            self, lambda letters, sample, k, word: accepts_rows(letters, sample, k, word, None), names + ("word",),
            ("ab", ("a",), 1, "a"), wrong,
        )

    def test_point_69_ahead_of_too_large_and_not_possible(self):
        self.assertTrue(oddities.is_refused(rounds, ("abcd", ("", "a", "b", "c", "d"), 13, 24), "k"))
        self.assertTrue(oddities.is_refused(rounds, ("abcd", ("", "a", "b", "c", "d"), 0, 25), "most"))
        self.assertTrue(oddities.is_refused(rows_for, ("ab", ("a",), True, "b"), "k"))
        self.assertTrue(oddities.is_refused(rows_for, ("ab", ("a",), 0, "c"), "word"))

    def test_point_5_and_69_short_samples_at_their_edges(self):
        twelve = tuple(oracles.all_words("ab", 12)[-12:])
        self.assertEqual(rounds("ab", twelve, 12, 12), twelve)
        for sample in (twelve + ("a" * 13,), ("a" * 13,), ("a",) + twelve, tuple(oracles.all_words("ab", 3)[:13])):
            self.assertTrue(oddities.is_refused(rounds, ("ab", sample, 0, 24), "sample"))
            self.assertTrue(oddities.is_refused(words_by_round, ("ab", sample, 0, 24), "sample"))
            self.assertTrue(oddities.is_refused(rows_for, ("ab", sample, 0, "a"), "sample"))


if __name__ == "__main__":
    unittest.main()
