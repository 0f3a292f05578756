"""The closure of seen words (points 6 and 46 to 53, 59 and 60)."""

import itertools
import unittest

from backseen.comparing import outside_word
from backseen.errors import TooLarge
from backseen.joining import classes, closure, greatest_look, is_must, seen_machine
from backseen.looking import has_property, is_of_look
from backseen.machines import first_words, is_least, is_machine, least_of, state_behind, takes
from backseen.words import beginnings, words_up_to
import oddities
import oracles
from oddities import NONE, chain

SAMPLES = oracles.random_samples(46, 80, "ab", 5, 5) + [(), ("",), ("", "a"), ("a", "aaa"), ("aaa", "aaaaa")]
WIDE = oracles.random_samples(47, 40, "abc", 6, 4)
LOOKS = (0, 1, 2, 3, 12)


def what_of(case, function, *arguments):
    with case.assertRaises(TooLarge) as caught:
        function(*arguments)
    return caught.exception.what


class Joined(unittest.TestCase):
    def test_point_47_and_48_classes_by_the_rules(self):
        for letters, samples in (("ab", SAMPLES), ("abc", WIDE)):
            for sample in samples:
                for k in LOOKS:
                    found = classes(letters, sample, k)
                    self.assertEqual(sorted(found), sorted(oracles.classes(letters, sample, k)))
                    self.assertEqual([oracles.in_order(members) for members in found], list(found))

    def test_point_49_joined_beginnings_are_alike(self):
        for sample in SAMPLES:
            longest = max(map(len, sample), default=0)
            for k in LOOKS:
                found = classes("ab", sample, k)
                for members in found:
                    for one, other in itertools.combinations(members, 2):
                        self.assertTrue(oracles.alike(one, other, k))
                if longest <= k:
                    self.assertEqual([len(members) for members in found], [1] * len(found))
                    self.assertEqual(oracles.language(closure("ab", sample, k), 6), set(sample))

    def test_point_48_rules_one_by_one(self):
        # (ends), then (on); without the one letter behind both, nothing goes on.
        self.assertEqual(classes("ab", ("", "a"), 0), (("", "a"),))
        self.assertEqual(classes("ab", ("a", "b"), 1), (("",), ("a",), ("b",)))
        self.assertEqual(classes("abc", ("ab", "cb", "aba"), 1), (("",), ("a",), ("c",), ("ab", "cb"), ("aba",)))
        self.assertEqual(classes("ab", ("ab", "bb", "aba", "bba"), 1)[-1], ("aba", "bba"))
        # (back): bab and aab end alike, and so do their beginnings ba and aa.
        self.assertEqual(
            classes("ab", ("aab", "bab"), 1), (("",), ("a",), ("b",), ("aa", "ba"), ("aab", "bab")),
        )


class SeenMachine(unittest.TestCase):
    def test_point_50_the_states_are_the_classes(self):
        for letters, samples in (("ab", SAMPLES), ("abc", WIDE)):
            for sample in samples:
                for k in LOOKS:
                    machine = seen_machine(letters, sample, k)
                    found = classes(letters, sample, k)
                    self.assertTrue(is_machine(machine))
                    self.assertEqual(machine[0], letters)
                    self.assertEqual(len(machine[1]), len(found))
                    state_of = {word: state for state, members in enumerate(found) for word in members}
                    for word in state_of:
                        self.assertEqual(state_behind(machine, word), state_of[word])
                    self.assertEqual(machine[2], tuple(sorted({state_of[word] for word in sample})))
                    edges = sum(1 for row in machine[1] for target in row if target is not None)
                    self.assertEqual(edges, len({(state_of[word[:-1]], word[-1]) for word in state_of if word}))

    def test_point_50_the_sample_without_words(self):
        for k in range(13):
            self.assertEqual(seen_machine("ab", (), k), NONE)
            self.assertEqual(closure("ab", (), k), NONE)
            self.assertEqual(classes("ab", (), k), ())
            self.assertIs(is_must("ab", (), k, ""), False)
        self.assertIsNone(greatest_look("ab", (), ""))

    def test_point_50_and_60_a_first_word_that_is_no_member(self):
        found = classes("abcd", ("a", "ba", "bacd"), 0)
        self.assertEqual(found, (("", "b"), ("a", "ba", "bacd"), ("bac",)))
        self.assertEqual(first_words(seen_machine("abcd", ("a", "ba", "bacd"), 0))[2], "ac")

    def test_point_51_the_closure_is_the_least_machine_of_the_seen_machine(self):
        for sample in SAMPLES:
            for k in LOOKS:
                found = closure("ab", sample, k)
                self.assertTrue(is_least(found))
                self.assertEqual(found, least_of(seen_machine("ab", sample, k)))

    def test_point_51_equal_closures_have_equal_seen_machines(self):
        samples = [
            sample for many in range(1, 4) for sample in itertools.combinations(oracles.all_words("ab", 2), many)
        ]
        for k in (0, 1, 2):
            by_closure, by_seen = {}, {}
            for sample in samples:
                one, other = closure("ab", sample, k), seen_machine("ab", sample, k)
                self.assertEqual(by_closure.setdefault(one, other), other)
                self.assertEqual(by_seen.setdefault(other, one), one)
            self.assertEqual(len(by_closure) < len(samples), k == 0)

    def test_point_51_the_lead_of_a_state_depends_on_the_state(self):
        for sample in SAMPLES:
            for k in (0, 1, 2):
                machine = seen_machine("ab", sample, k)
                led = {}
                for word in oracles.all_words("ab", 6):
                    state = state_behind(machine, word)
                    if state is not None:
                        lead = oracles.lead(word, k)
                        self.assertEqual(led.setdefault(state, lead), lead)


class Closure(unittest.TestCase):
    def test_point_6_and_46_the_least_language_of_the_look(self):
        for sample in SAMPLES:
            for k in LOOKS:
                found = closure("ab", sample, k)
                self.assertIs(is_of_look(found, k), True)
                self.assertIs(has_property(found, k), True)
                for word in sample:
                    self.assertTrue(takes(found, word))

    def test_point_46_no_language_of_the_look_that_contains_the_sample_is_less(self):
        machines = oracles.all_machines("ab", 1) + oracles.all_machines("ab", 2)
        machines += oracles.random_machines(46, 100, "ab", 5)
        for sample in SAMPLES[::2]:
            for k in (0, 1, 2):
                found = closure("ab", sample, k)
                for machine in machines:
                    if is_of_look(machine, k) and all(takes(machine, word) for word in sample):
                        self.assertIsNone(outside_word(found, machine))

    def test_point_46_is_must(self):
        for sample in SAMPLES:
            for k in LOOKS:
                found = closure("ab", sample, k)
                for word in oracles.all_words("ab", 5):
                    self.assertIs(is_must("ab", sample, k, word), takes(found, word))

    def test_point_52_words_of_the_sample_and_short_words(self):
        for sample in SAMPLES:
            for k in LOOKS:
                for word in sample:
                    self.assertIs(is_must("ab", sample, k, word), True)
                for word in oracles.all_words("ab", min(k - 1, 4)):
                    self.assertIs(is_must("ab", sample, k, word), word in sample)

    def test_point_52_a_word_more(self):
        for sample in SAMPLES[::2]:
            for k in (0, 1, 2):
                found = seen_machine("ab", sample, k)
                for word in oracles.all_words("ab", 3):
                    more = oracles.in_order(sample + (word,))
                    again = seen_machine("ab", more, k)
                    if is_must("ab", sample, k, word):
                        self.assertEqual(again, found)
                    else:
                        self.assertIsNone(outside_word(found, again))
                        self.assertIsNotNone(outside_word(again, found))

    def test_point_52_samples_whose_words_must_be_in_by_another_one(self):
        for one, other in itertools.product(SAMPLES[::6], repeat=2):
            for k in (0, 1):
                if all(is_must("ab", other, k, word) for word in one):
                    self.assertIsNone(outside_word(closure("ab", one, k), closure("ab", other, k)))

    def test_point_52_greatest_look(self):
        for sample in SAMPLES[::2]:
            for word in oracles.all_words("ab", 4):
                told = [is_must("ab", sample, k, word) for k in range(13)]
                self.assertEqual(told, sorted(told, reverse=True))
                look = greatest_look("ab", sample, word)
                self.assertEqual(look, told.count(True) - 1 if told[0] else None)

    def test_point_52_the_greatest_looks_from_0_to_12(self):
        for k in range(13):
            sample = oracles.in_order(("a" + "b" * k, "b" + "b" * k, "a" + "b" * k + "a"))
            word = "b" + "b" * k + "a"
            self.assertEqual(greatest_look("ab", sample, word), k)
        self.assertEqual(greatest_look("ab", ("", "ab"), "ab"), 12)
        self.assertIsNone(greatest_look("ab", ("ab",), "a"))

    def test_point_52_read_backward(self):
        for sample in SAMPLES:
            backward = oracles.in_order(word[::-1] for word in sample)
            for k in LOOKS:
                for word in oracles.all_words("ab", 4):
                    self.assertIs(is_must("ab", sample, k, word), is_must("ab", backward, k, word[::-1]))

    def test_point_60_examples(self):
        sample = ("ab", "cb", "aba")
        self.assertIs(is_must("abc", sample, 1, "cba"), True)
        self.assertEqual(len(seen_machine("abc", sample, 1)[1]), len(closure("abc", sample, 1)[1]) + 1)
        found = closure("abcd", ("a", "ba", "bacd"), 0)
        for word in oracles.all_words("abcd", 5):
            head, sign, tail = word.partition("a")
            told = sign == "a" and set(head) <= {"b"} and tail == "cd" * (len(tail) // 2)
            self.assertIs(takes(found, word), told)


class Edges(unittest.TestCase):
    def test_point_53_exactly_400_classes_and_more(self):
        for k in range(13):
            self.assertEqual(seen_machine("ab", ("a" * 399,), k), chain("ab", 400))
            self.assertEqual(closure("ab", ("a" * 399,), k), chain("ab", 400))
            self.assertEqual(what_of(self, seen_machine, "ab", ("a" * 400,), k), "looked")
            self.assertEqual(what_of(self, closure, "ab", ("a" * 400,), k), "states")
        self.assertEqual(len(classes("ab", ("a" * 400,), 0)), 401)

    def test_point_53_many_classes_but_a_small_least_machine(self):
        sample = tuple(word + "abcdab" for word in words_up_to("abcd", 4)[85:285])
        self.assertEqual((len(sample), sum(map(len, sample))), (200, 2000))
        self.assertEqual(len(classes("abcd", sample, 12)), len(beginnings("abcd", sample)))
        self.assertEqual(what_of(self, seen_machine, "abcd", sample, 12), "looked")
        small = closure("abcd", sample, 12)
        self.assertLess(len(small[1]), 30)
        self.assertIs(is_must("abcd", sample, 12, sample[77]), True)
        self.assertIs(is_must("abcd", sample, 12, "a" * 10), False)
        self.assertEqual(greatest_look("abcd", sample, "ddddabcdab"), 0)
        self.assertEqual(greatest_look("abcd", sample, "dacaabcdab"), 1)
        self.assertEqual(len(classes("abcd", sample, 6)[-1]), 200)
        for k in range(13):
            self.assertIs(is_of_look(closure("abcd", sample, k), k), True)

    def test_point_53_samples_of_2000_letters_in_all(self):
        for sample in (("ab" * 1000,), ("a" * 999, "b" * 1001), ("", "a" * 2000)):
            self.assertEqual(len(classes("ab", sample, 12)), 2001)
            for k in (0, 12):
                self.assertIs(is_must("ab", sample, k, "b" * 500), False)
                self.assertEqual(what_of(self, seen_machine, "ab", sample, 12), "looked")
        self.assertEqual(classes("a", ("", "a" * 2000), 0)[0], ("", "a" * 2000))
        self.assertEqual(len(classes("a", ("", "a" * 2000), 0)), 2000)
        self.assertEqual(closure("a", ("a" * 999, "a" * 1000), 0), ("a", ((0,),), (0,)))
        self.assertEqual(greatest_look("a", ("a" * 999, "a" * 1000), "a" * 500), 12)
        self.assertEqual(greatest_look("a", ("a" * 999, "a" * 1000), "a" * 11), 11)

    def test_point_53_the_longest_words_that_may_be_asked(self):
        sample = ("", "a" * 250)
        self.assertIs(is_must("a", sample, 0, "a" * 500), True)
        self.assertIs(is_must("a", sample, 0, "a" * 499), False)
        self.assertIs(is_must("a", sample, 1, "a" * 500), False)


class Wrong(unittest.TestCase):
    def test_point_59_wrong_arguments(self):
        wrong = {
            "letters": oddities.LETTERS, "sample": oddities.SAMPLES, "k": oddities.LOOKS,
            "word": oddities.ASKED_WORDS,
        }
        names = ("letters", "sample", "k", "word")
        oddities.check_wrong(self, is_must, names, ("ab", ("a",), 1, "b"), wrong)
        for function in (classes, seen_machine, closure):
            oddities.check_wrong(self, function, names[:3], ("ab", ("a",), 1), wrong)
        oddities.check_wrong(self, greatest_look, ("letters", "sample", "word"), ("ab", ("a",), "b"), wrong)

    def test_point_59_ahead_of_too_large(self):
        for function in (seen_machine, closure):
            for k in (13, -1, True, None):
                self.assertTrue(oddities.is_refused(function, ("ab", ("a" * 400,), k), "k"))
            self.assertTrue(oddities.is_refused(function, ("b", ("a" * 400,), 0), "sample"))


if __name__ == "__main__":
    unittest.main()
