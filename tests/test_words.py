"""Words (points 1 to 5, 8 and 10 to 18)."""

import itertools
import unittest

from backseen.errors import TooLarge
from backseen.words import (
    are_alike, beginnings, comes_before, common_end, is_letters, is_look, is_sample, is_word, words_up_to,
)
import oddities
import oracles

ALPHABET = "abcdefghijklmnopqrstuvwxyz"


class Forms(unittest.TestCase):
    def test_point_3_and_10_letters(self):
        for text in ("a", "z", "ab", "az", "xyz", "abcd", "wxyz", "mnop"):
            self.assertIs(is_letters(text), True)
        for text in ("", "ba", "aa", "abb", "abcde", "aBc", "a1", "ab ", "{", "`a", "\u00e9", "a\n"):
            self.assertIs(is_letters(text), False)
        for value in oddities.oddities() + oddities.LETTERS:
            self.assertIs(is_letters(value), False)

    def test_point_3_letters_of_a_few_signs(self):
        signs = "abyz"
        for many in range(6):
            for row in itertools.product(signs, repeat=many):
                text = "".join(row)
                right = 1 <= many <= 4 and list(row) == sorted(set(row))
                self.assertIs(is_letters(text), right)

    def test_point_4_and_10_looks(self):
        self.assertEqual([k for k in range(-3, 20) if is_look(k)], list(range(13)))
        self.assertIs(is_look(0), True)
        self.assertIs(is_look(12), True)
        for value in oddities.oddities() + oddities.LOOKS:
            self.assertIs(is_look(value), False)

    def test_point_10_words_of_any_length(self):
        for word in ("", "a", "b", "ab" * 250, "ab" * 250 + "a", "b" * 100000):
            self.assertIs(is_word("ab", word), True)
        for word in ("c", "abc", "A", "a b", "a" * 100000 + "c", "\u00e9"):
            self.assertIs(is_word("ab", word), False)
        self.assertIs(is_word("c", "a"), False)
        for value in oddities.oddities():
            self.assertIs(is_word("ab", value), False)

    def test_point_5_and_10_samples(self):
        for sample in ((), ("",), ("a",), ("", "a"), ("b", "aa"), ("", "b", "aa"), ("a", "b", "aa", "ab")):
            self.assertIs(is_sample("ab", sample), True)
        for value in oddities.oddities() + oddities.SAMPLES:
            self.assertIs(is_sample("ab", value), False)
        for value in (["b"], [], ("c",), ("aa", "b"), ("b", "a"), ("a", ""), ("a", "a"), "ab", ("ab", 3), (["a"],)):
            self.assertIs(is_sample("ab", value), False)

    def test_point_5_at_most_200_words(self):
        words = words_up_to("ab", 7)
        self.assertIs(is_sample("ab", words[:200]), True)
        self.assertEqual(words[0], "")
        self.assertIs(is_sample("ab", words[:201]), False)
        self.assertIs(is_sample("ab", words[1:201]), True)
        self.assertIs(is_sample("ab", words[1:202]), False)

    def test_point_5_at_most_2000_letters_in_all(self):
        for extra in ((), ("",)):
            self.assertIs(is_sample("ab", extra + ("a" * 2000,)), True)
            self.assertIs(is_sample("ab", extra + ("a" * 2001,)), False)
            self.assertIs(is_sample("ab", extra + ("b", "a" * 1999)), True)
            self.assertIs(is_sample("ab", extra + ("b", "a" * 2000)), False)
        ten = oracles.all_words("ab", 10)[-200:]
        self.assertIs(is_sample("ab", tuple(ten)), True)
        self.assertIs(is_sample("ab", tuple(ten[1:]) + ("a" * 11,)), False)

    def test_point_10_long_words_may_stand_in_samples(self):
        self.assertIs(is_sample("ab", ("a" * 501,)), True)
        self.assertIs(is_sample("ab", ("a" * 600, "b" * 700, "a" * 700)), False)
        self.assertIs(is_sample("ab", ("a" * 600, "a" * 700, "b" * 700)), True)

    def test_point_8_is_functions_answer_with_truths_alone(self):
        for value in ("a", "ab", ("a",), (), 3, None):
            self.assertIn(is_letters(value), (True, False))
            self.assertIs(type(is_letters(value)), bool)
            self.assertIs(type(is_look(value)), bool)
            self.assertIs(type(is_word("a", value)), bool)
            self.assertIs(type(is_sample("a", value)), bool)


class Order(unittest.TestCase):
    def test_point_3_and_11_shorter_words_first_then_the_alphabet(self):
        words = oracles.all_words("abz", 3)
        for at, one in enumerate(words):
            for other_at, other in enumerate(words):
                self.assertIs(comes_before(one, other), at < other_at)

    def test_point_11_plain_words_of_the_whole_alphabet(self):
        self.assertIs(comes_before(ALPHABET, ALPHABET[::-1]), True)
        self.assertIs(comes_before("z", "aa"), True)
        self.assertIs(comes_before("b" * 499, "a" * 500), True)
        self.assertIs(comes_before("a" * 500, "a" * 500), False)

    def test_point_11_kept_with_a_third_word_behind_or_ahead(self):
        words = oracles.all_words("ab", 3)
        for one, other, third in itertools.product(words, repeat=3):
            told = comes_before(one, other)
            self.assertIs(comes_before(one + third, other + third), told)
            self.assertIs(comes_before(third + one, third + other), told)
            self.assertEqual(told + comes_before(other, one), one != other)

    def test_point_12_words_up_to(self):
        self.assertEqual(words_up_to("ab", 0), ("",))
        self.assertEqual(words_up_to("ab", 2), ("", "a", "b", "aa", "ab", "ba", "bb"))
        self.assertEqual(words_up_to("xz", 3), tuple(oracles.all_words("xz", 3)))
        self.assertEqual(words_up_to("abcd", 3), tuple(oracles.all_words("abcd", 3)))

    def test_point_12_the_greatest_most_and_the_one_behind_it(self):
        for letters, most, many in (("a", 24, 25), ("ab", 10, 2047), ("abc", 6, 1093), ("abcd", 5, 1365)):
            words = words_up_to(letters, most)
            self.assertEqual(len(words), many)
            self.assertEqual(words, tuple(sorted(set(words), key=oracles.place)))
            if most < 24:
                for more in range(most + 1, 25):
                    with self.assertRaises(TooLarge) as caught:
                        words_up_to(letters, more)
                    self.assertEqual(caught.exception.what, "words")


class Endings(unittest.TestCase):
    def test_point_13_common_end(self):
        words = oracles.all_words("ab", 4)
        for one, other in itertools.product(words, repeat=2):
            told = max(
                (one[at:] for at in range(len(one) + 1) if other.endswith(one[at:])), key=len,
            )
            self.assertEqual(common_end(one, other), told)

    def test_point_13_edges(self):
        self.assertEqual(common_end("a" * 500, "b" + "a" * 499), "a" * 499)
        self.assertEqual(common_end("a" * 500, "a" * 500), "a" * 500)
        self.assertEqual(common_end("", "abc"), "")
        self.assertEqual(common_end("xabcdef", "yabcdef"), "abcdef")

    def test_point_14_are_alike(self):
        words = oracles.all_words("ab", 4)
        for one, other in itertools.product(words, repeat=2):
            for k in range(13):
                told = len(one) >= k and len(other) >= k and one[len(one) - k:] == other[len(other) - k:]
                self.assertIs(are_alike(one, other, k), told)
                self.assertIs(are_alike(one, other, k), len(common_end(one, other)) >= k)

    def test_point_4_and_14_what_holds_of_alike_words(self):
        words = oracles.all_words("ab", 3)
        for k in range(4):
            for one, other, third in itertools.product(words, repeat=3):
                if are_alike(one, third, k) and are_alike(other, third, k):
                    self.assertTrue(are_alike(one, other, k))
                if are_alike(one, other, k + 1):
                    self.assertTrue(are_alike(one, other, k))
                if are_alike(one, other, k):
                    self.assertTrue(are_alike(one + third, other + third, k))
                self.assertTrue(are_alike(one, other, 0))
            self.assertIs(are_alike("ab", "ab", k), k <= 2)

    def test_point_18_example(self):
        self.assertEqual(common_end("abba", "bba"), "bba")
        self.assertEqual([k for k in range(13) if are_alike("abba", "bba", k)], [0, 1, 2, 3])


class Beginnings(unittest.TestCase):
    def test_point_15_beginnings(self):
        self.assertEqual(beginnings("ab", ()), ())
        self.assertEqual(beginnings("ab", ("",)), ("",))
        self.assertEqual(beginnings("ab", ("b", "aab", "aba")), ("", "a", "b", "aa", "ab", "aab", "aba"))
        for sample in oracles.random_samples(15, 200, "abc"):
            found = beginnings("abc", sample)
            self.assertEqual(found, oracles.beginnings(sample))
            self.assertLessEqual(len(found), sum(map(len, sample)) + 1)
            if sample:
                self.assertEqual(found[0], "")

    def test_point_15_2001_beginnings(self):
        found = beginnings("ab", ("ab" * 1000,))
        self.assertEqual(len(found), 2001)
        self.assertEqual(found[-1], "ab" * 1000)
        self.assertEqual(found[777], ("ab" * 1000)[:777])
        self.assertEqual(len(beginnings("ab", ("a" * 1000, "b" * 1000))), 2001)

    def test_point_16_beginnings_of_beginnings_and_a_word_more(self):
        for sample in oracles.random_samples(16, 100):
            found = beginnings("ab", sample)
            self.assertEqual(beginnings("ab", found), found)
            for word in ("", "b", "abab"):
                more = oracles.in_order(sample + (word,))
                new = {word[:many] for many in range(len(word) + 1)} - set(found)
                self.assertEqual(set(beginnings("ab", more)), set(found) | new)


class Wrong(unittest.TestCase):
    plain = [None, 0, "A", "a1", "\u00e9", "a" * 501, ("a",), ["a"], b"a", "a b"]

    def test_point_17_wrong_arguments(self):
        wrong = {
            "letters": oddities.LETTERS, "sample": oddities.SAMPLES, "k": oddities.LOOKS,
            "one": self.plain, "other": self.plain, "most": [None, -1, 25, "3", (3,), 10 ** 20],
        }
        oddities.check_wrong(self, comes_before, ("one", "other"), ("a", "b"), wrong)
        oddities.check_wrong(self, common_end, ("one", "other"), ("a", "b"), wrong)
        oddities.check_wrong(self, are_alike, ("one", "other", "k"), ("a", "b", 1), wrong)
        oddities.check_wrong(self, words_up_to, ("letters", "most"), ("ab", 3), wrong)
        oddities.check_wrong(self, beginnings, ("letters", "sample"), ("ab", ("a",)), wrong)

    def test_point_10_and_17_letters_ahead_of_a_value(self):
        for letters in oddities.LETTERS + oddities.oddities():
            for value in ("a", None, 0, ()):
                self.assertTrue(oddities.is_refused(is_word, (letters, value), "letters"))
                self.assertTrue(oddities.is_refused(is_sample, (letters, value), "letters"))

    def test_point_7_wrong_letters_come_ahead_of_too_large(self):
        self.assertTrue(oddities.is_refused(words_up_to, ("abcde", 24), "letters"))
        self.assertTrue(oddities.is_refused(words_up_to, ("abcd", 25), "most"))
        self.assertTrue(oddities.is_refused(words_up_to, ("ab", True), "most"))

    def test_point_11_plain_words_have_at_most_500_letters(self):
        long = "ab" * 250
        self.assertIs(comes_before(long, long), False)
        self.assertEqual(common_end(long, long), long)
        self.assertTrue(are_alike(long, long, 12))
        for function, more in ((comes_before, ()), (common_end, ()), (are_alike, (1,))):
            self.assertTrue(oddities.is_refused(function, (long + "a", long) + more, "one"))
            self.assertTrue(oddities.is_refused(function, (long, long + "a") + more, "other"))

    def test_point_17_looks_beside_the_edges(self):
        for k in (-1, 13, True, False):
            self.assertTrue(oddities.is_refused(are_alike, ("a", "a", k), "k"))
        self.assertIs(are_alike("a" * 12, "a" * 13, 12), True)
        self.assertIs(are_alike("a", "b", 0), True)


if __name__ == "__main__":
    unittest.main()
