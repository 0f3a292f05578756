"""Windows (points 86 to 90)."""

import itertools
import random
import unittest

from backseen.comparing import outside_word, telling_word
from backseen.errors import TooLarge
from backseen.joining import closure, is_must
from backseen.looking import is_of_look
from backseen.machines import is_least, is_machine, least_of, takes, tree_of
from backseen.windows import (
    accepts_window, accepts_windowed, first_free_in_windows, is_in_windows, is_windowed, window_machine, window_paper,
    window_table, windowed_against, windows_of,
)
import oddities
import oracles
from oddities import EVEN, EVERY, NONE, chain, circle

SAMPLES = oracles.random_samples(86, 60, "ab", 4, 5) + [(), ("",), ("a",), ("", "a"), ("aba", "bab"), ("abba", "babab")]
MACHINES = (
    oracles.all_machines("a", 3) + oracles.all_machines("ab", 2)[::3] + oracles.random_machines(87, 60, "ab", 5)
    + [NONE, EVEN, EVERY]
)
LOOKS = (0, 1, 2, 3)
chance = random.Random(88)


def table(words, k):
    """The table of the words, told plainly."""
    long_words = [word for word in words if len(word) >= k]
    return (
        oracles.in_order(word for word in words if len(word) < k), oracles.in_order(word[:k] for word in long_words),
        oracles.in_order(word[at:at + k + 1] for word in words for at in range(len(word) - k)),
        oracles.in_order(word[len(word) - k:] for word in long_words),
    )


def is_in(words, k, word):
    shorts, firsts, windows, lasts = table(words, k)
    if len(word) < k:
        return word in shorts
    if word[:k] not in firsts or word[len(word) - k:] not in lasts:
        return False
    return all(word[at:at + k + 1] in windows for at in range(len(word) - k))


def distinct(many, k=12):
    """A word of so many letters in which no word of k letters stands twice."""
    word, seen = "a" * k, {"a" * k}
    while len(word) < many:
        for letter in "ba":
            if (word + letter)[-k:] not in seen:
                word += letter
                seen.add(word[-k:])
                break
    return word


def evidence(sample, k, word):
    """All evidence about the word, but for numbers and places that are one too large or too small."""
    found = [("out", "short"), ("out", "first"), ("out", "last")] + [("out", at) for at in range(-1, len(word) + 2)]
    found += [("in", number) for number in range(-1, len(sample) + 1)]
    return found


def is_right(sample, k, word, value):
    """Whether evidence is right, told plainly."""
    shorts, firsts, windows, lasts = table(sample, k)
    short = len(word) < k
    if value[0] == "out":
        if type(value[1]) is int:
            at = value[1]
            return at >= 0 and len(word) >= at + k + 1 and word[at:at + k + 1] not in windows
        return {
            "short": short and word not in shorts, "first": not short and word[:k] not in firsts,
            "last": not short and word[len(word) - k:] not in lasts,
        }[value[1]]
    if len(value) == 2:
        return short and 0 <= value[1] < len(sample) and sample[value[1]] == word
    _, first, places, last = value
    if short or not all(0 <= number < len(sample) and len(sample[number]) >= k for number in (first, last)):
        return False
    if sample[first][:k] != word[:k] or not word.endswith(sample[last][len(sample[last]) - k:]):
        return False
    if len(places) != len(word) - k:
        return False
    return all(
        0 <= number < len(sample) and at >= 0 and sample[number][at:at + k + 1] == word[here:here + k + 1]
        for here, (number, at) in enumerate(places)
    )


class Tables(unittest.TestCase):
    def test_point_86_tables(self):
        for sample in SAMPLES:
            for k in (0, 1, 2, 3, 12):
                self.assertEqual(window_table("ab", sample, k), table(sample, k))
        for k in range(13):
            self.assertEqual(window_table("ab", (), k), ((), (), (), ()))
            word = "ab" * 6
            self.assertEqual(window_table("ab", (word,), k)[1:2], ((word[:k],),))
        self.assertEqual(window_table("ab", ("ab" * 6,), 12), ((), ("ab" * 6,), (), ("ab" * 6,)))
        self.assertEqual(window_table("ab", ("ab" * 5,), 12), (("ab" * 5,), (), (), ()))
        self.assertEqual(window_table("ab", ("",), 0), ((), ("",), (), ("",)))

    def test_point_87_words_in_the_windows(self):
        for sample in SAMPLES:
            for k in LOOKS:
                made = window_machine("ab", sample, k)
                self.assertIs(is_machine(made) and is_least(made), True)
                for word in oracles.all_words("ab", 6):
                    told = is_in(sample, k, word)
                    self.assertIs(is_in_windows("ab", sample, k, word), told)
                    self.assertIs(takes(made, word), told)

    def test_point_87_windows_of_a_language(self):
        for machine in MACHINES[::2]:
            for k in (0, 1, 2):
                made = windows_of(machine, k)
                self.assertIs(is_machine(made) and is_least(made), True)
                self.assertEqual(windows_of(least_of(machine), k), made)
                # Long enough for all first and last letters and all windows of so few states.
                words = oracles.language(machine, 9 if machine[0] == "ab" else 12)
                for word in oracles.all_words(machine[0], 4):
                    self.assertIs(takes(made, word), is_in(words, k, word), (machine, k, word))

    def test_point_87_first_free_in_windows(self):
        told = {True: 0, False: 0}
        for sample in SAMPLES:
            for k in LOOKS:
                word = first_free_in_windows("ab", sample, k)
                self.assertEqual(word, outside_word(window_machine("ab", sample, k), closure("ab", sample, k)))
                told[word is None] += 1
                if word is not None:
                    self.assertTrue(is_in_windows("ab", sample, k, word) and not is_must("ab", sample, k, word))
        self.assertGreater(min(told.values()), 30)

    def test_point_88_the_windows_contain_the_sample_and_are_windowed(self):
        for sample in SAMPLES:
            for k in LOOKS:
                made = window_machine("ab", sample, k)
                self.assertIs(is_windowed(made, k), True)
                self.assertTrue(all(takes(made, word) for word in sample))
                self.assertIsNone(outside_word(closure("ab", sample, k), made))
                self.assertIsNone(outside_word(window_machine("ab", sample, k + 1), made))
                self.assertEqual(windows_of(tree_of("ab", sample), k), made)
                self.assertEqual(windows_of(closure("ab", sample, k), k), made)
                for machine in MACHINES[::5]:
                    if machine[0] == "ab" and is_windowed(machine, k) and all(takes(machine, word) for word in sample):
                        self.assertIsNone(outside_word(made, machine))

    def test_point_88_windowed_languages(self):
        told = {True: 0, False: 0}
        for machine in MACHINES:
            for k in LOOKS:
                windowed = is_windowed(machine, k)
                told[windowed] += 1
                self.assertIs(is_windowed(least_of(machine), k), windowed)
                self.assertIs(windows_of(machine, k) == least_of(machine), windowed)
                self.assertIsNone(outside_word(machine, windows_of(machine, k)))
                self.assertIs(is_windowed(windows_of(machine, k), k), True)
                letters, rows, _ = least_of(machine)
                led = [
                    {oracles.state_behind(least_of(machine), word, state) for state in range(len(rows))} - {None}
                    for word in map("".join, itertools.product(letters, repeat=k))
                ]
                self.assertIs(all(len(states) < 2 for states in led), windowed)
                if windowed:
                    self.assertIs(is_of_look(machine, k) and is_windowed(machine, k + 1), True)
        self.assertGreater(min(told.values()), 100)
        for k in range(13):
            self.assertIs(is_windowed(circle("a", 2), k), False)
            self.assertIs(is_of_look(circle("a", 2), k), True)
            self.assertIs(is_windowed(chain("ab", 14), k), k == 13)
            self.assertIs(is_windowed(chain("ab", 13), k), k == 12)

    def test_point_88_by_the_definition(self):
        for machine in oracles.all_machines("a", 3) + oracles.random_machines(89, 30, "ab", 3):
            words = oracles.language(machine, 5)
            for k in (0, 1, 2):
                cuts = [(word[:at], word[at:]) for word in words for at in range(k, len(word) + 1)]
                by_lead = {}
                for begun, rest in cuts:
                    begins, rests = by_lead.setdefault(begun[len(begun) - k:], (set(), set()))
                    begins.add(begun)
                    rests.add(rest)
                told = all(
                    takes(machine, begun + rest)
                    for begins, rests in by_lead.values() for begun in begins for rest in rests
                )
                self.assertTrue(told or not is_windowed(machine, k))

    def test_point_88_five_words_against_windows(self):
        for machine in MACHINES + oracles.random_machines(90, 40, "abcd", 6):
            for k in (0, 1, 2, 5, 12):
                five = windowed_against(machine, k)
                self.assertEqual(five is None, is_windowed(machine, k))
                if five is not None:
                    x, y, v, w, z = five
                    self.assertEqual(len(v), k)
                    self.assertTrue(takes(machine, x + v + w) and takes(machine, y + v + z))
                    self.assertFalse(takes(machine, x + v + z))
                    self.assertIs(accepts_windowed(machine, k, five), True)
                    self.assertIs(accepts_windowed(least_of(machine), k, five), True)

    def test_point_88_judging_all_small_five_words(self):
        words = oracles.all_words("ab", 1)
        told = {True: 0, False: 0}
        for machine in oracles.random_machines(91, 30, "ab", 4) + [NONE]:
            for k in (0, 1):
                for five in itertools.product(words, words, oracles.all_words("ab", k + 1), words, words):
                    x, y, v, w, z = five
                    good = len(v) == k and takes(machine, x + v + w) and takes(machine, y + v + z)
                    good = good and not takes(machine, x + v + z)
                    told[good] += 1
                    self.assertIs(accepts_windowed(machine, k, five), good)
        self.assertGreater(min(told.values()), 20)

    def test_point_88_words_of_500_letters_and_501(self):
        # One letter a, if at all at the beginning, and any number of letters b.
        machine = ("ab", ((1, 1), (None, 1)), (0, 1))
        for many in (500, 501):
            for five in (
                ("b" * many, "", "", "", "a"), ("b", "", "", "b" * many, "a"),
                ("b", "", "", "", "a" + "b" * (many - 1)),
            ):
                self.assertIs(accepts_windowed(machine, 0, five), many == 500, five)
        pair = ("ab", ((0, 1), (1, 2), (2, 0)), (1,))
        for many in (500, 501):
            self.assertIs(accepts_windowed(pair, 0, ("", "a" * (many - 1) + "b", "", "b", "")), many == 500)

    def test_point_88_two_samples_with_one_table(self):
        tables, machines = {}, {}
        for sample in SAMPLES + oracles.random_samples(92, 150, "ab", 3, 3):
            for k in (0, 1, 2):
                told = window_table("ab", sample, k)
                made = window_machine("ab", sample, k)
                self.assertEqual(tables.setdefault((k, told), made), made)
                self.assertEqual(machines.setdefault((k, made), told), told)
        self.assertLess(len(tables), 3 * (len(SAMPLES) + 150))

    def test_point_88_a_word_more(self):
        for sample in SAMPLES:
            for k in (0, 1, 2):
                for word in oracles.all_words("ab", 4):
                    same = window_table("ab", oracles.in_order(sample + (word,)), k) == window_table("ab", sample, k)
                    self.assertIs(is_in_windows("ab", sample, k, word), same)

    def test_point_88_read_backward_and_short_samples(self):
        for sample in SAMPLES:
            backward = oracles.in_order(word[::-1] for word in sample)
            for k in LOOKS:
                for word in oracles.all_words("ab", 5):
                    told = is_in_windows("ab", sample, k, word)
                    self.assertIs(is_in_windows("ab", backward, k, word[::-1]), told)
                    if is_in_windows("ab", sample, k + 1, word):
                        self.assertTrue(told)
                    if max(map(len, sample), default=0) <= k:
                        self.assertIs(told, word in sample)


class Evidence(unittest.TestCase):
    def test_point_89_evidence_of_exactly_one_of_the_first_items(self):
        told = {}
        for sample in SAMPLES:
            for k in LOOKS:
                for word in oracles.all_words("ab", 5):
                    paper = window_paper("ab", sample, k, word)
                    self.assertEqual(paper[0] == "in", is_in(sample, k, word))
                    self.assertTrue(is_right(sample, k, word, paper))
                    self.assertIs(accepts_window("ab", sample, k, word, paper), True)
                    key = (paper[0], len(paper), type(paper[1]), paper[1] if type(paper[1]) is str else "")
                    told[key] = told.get(key, 0) + 1
        self.assertEqual(len(told), 6)
        self.assertGreater(min(told.values()), 20)

    def test_point_89_small_evidence_by_whomever(self):
        told = {True: 0, False: 0}
        for sample in SAMPLES:
            for k in LOOKS:
                for word in oracles.all_words("ab", 4):
                    for value in evidence(sample, k, word):
                        good = is_right(sample, k, word, value)
                        told[good] += 1
                        self.assertIs(accepts_window("ab", sample, k, word, value), good, (sample, k, word, value))
        self.assertGreater(min(told.values()), 1000)

    def test_point_89_numbers_and_places_by_whomever(self):
        told = {True: 0, False: 0}
        for sample in SAMPLES[::2]:
            for k in (0, 1, 2):
                for word in oracles.all_words("ab", 4):
                    if not is_in(sample, k, word) or len(word) < k:
                        continue
                    _, first, places, last = window_paper("ab", sample, k, word)
                    for number in range(-1, len(sample) + 1):
                        values = [("in", number, places, last), ("in", first, places, number)]
                        for here in range(len(places)):
                            for at in range(-1, 6):
                                changed = places[:here] + ((number, at),) + places[here + 1:]
                                values.append(("in", first, changed, last))
                        for value in values:
                            good = is_right(sample, k, word, value)
                            told[good] += 1
                            self.assertIs(accepts_window("ab", sample, k, word, value), good, (sample, k, word, value))
                    for value in (
                        ("in", first, places[1:], last), ("in", first, places + places[:1], last),
                        ("in", first, places, last, last), ("in", first, places), ("out", first, places, last),
                        ("In", first, places, last), ["in", first, places, last], ("in", first, list(places), last),
                    ):
                        same = len(value) == 4 and type(value) is tuple and value[0] == "in" and value[2] == places
                        self.assertIs(accepts_window("ab", sample, k, word, value), same)
        self.assertGreater(min(told.values()), 1000)

    def test_point_89_examples(self):
        sample = ("aba", "bab")
        for value, told in (
            (("in", 0, ((0, 0), (0, 1)), 0), True), (("in", 0, ((1, 1), (1, 0)), 0), True),
            (("in", 1, ((0, 0), (0, 1)), 0), False),
            (("in", 0, ((0, 0), (0, 0)), 0), False), (("in", 0, ((0, 0), (0, 1)), 1), False),
            (("in", 0, ((0, 0),), 0), False),
            (("in", 0, ((False, 0), (0, 1)), 0), False), (("in", False, ((0, 0), (0, 1)), 0), False),
            (("in", 0, ([0, 0], (0, 1)), 0), False), (("in", 0, ((0, 0), (0, True)), 0), False),
            (("in", 0, ((0, 0), (0, 1)), None), False), (("in", 0, ((0, 0, 0), (0, 1)), 0), False),
            (("in", 0, (), 0), False),
        ):
            self.assertIs(accepts_window("ab", sample, 1, "aba", value), told, value)

    def test_point_89_items_too_many(self):
        sample = ("", "aba", "bab")
        for k, word, right in (
            (1, "aab", ("out", 0)), (2, "aab", ("out", "first")), (1, "a", ("in", 1, (), 1)), (1, "", ("in", 0)),
            (2, "a", ("out", "short")),
        ):
            self.assertIs(accepts_window("ab", sample, k, word, right), True)
            for value in (right + (0,), right + ((),), right + (0, 0), right[:-1], right[:1], list(right), right[1:]):
                self.assertIs(accepts_window("ab", sample, k, word, value), False, value)

    def test_point_89_words_of_500_letters_and_samples_with_longer_ones(self):
        sample = ("a" * 600, "a" * 700)
        for k in (0, 1, 12):
            paper = window_paper("ab", sample, k, "a" * 500)
            self.assertIs(accepts_window("ab", sample, k, "a" * 500, paper), True)
            places = tuple((1, 700 - k - 1) for _ in range(500 - k))
            self.assertIs(accepts_window("ab", sample, k, "a" * 500, ("in", 1, places, 0)), True)
            self.assertIs(accepts_window("ab", sample, k, "a" * 500, ("in", 1, places[1:] + ((1, 700 - k),), 0)), False)
            self.assertIs(
                accepts_window("ab", sample, k, "a" * 500, ("in", 1, places[1:] + ((1, 10 ** 30),), 0)), False,
            )
            self.assertEqual(window_paper("ab", sample, k, "a" * 499 + "b")[0], "out")

    def test_points_88_89_and_8_values_of_any_kind(self):
        names = ("in", "out")
        sample = ("", "aba", "bab")
        for word in ("", "a", "b", "aba", "abb"):
            for k in (0, 1, 2):
                oddities.check_judge(
                    self, lambda value: accepts_window("ab", sample, k, word, value),
                    [("in", 3), ("in", -1), ("out", "First"), ("in", 0, (), 3), ("out", len(word))], names,
                )
        for odd in oddities.oddities():
            if odd is not False and type(odd) is not int:
                self.assertIs(accepts_window("ab", sample, 1, "", ("in", odd)), False)
        self.assertIs(accepts_window("ab", sample, 1, "", ("in", 0)), True)
        self.assertIs(accepts_window("ab", sample, 1, "", ("in", False)), False)
        self.assertIs(accepts_window("ab", sample, 1, "bb", ("out", 0)), True)
        self.assertIs(accepts_window("ab", sample, 1, "bb", ("out", False)), False)
        for k in (0, 1, 2):
            oddities.check_judge(self, lambda value: accepts_windowed(EVERY, k, value), [("",) * 5, ("a",) * 5], names)
        five = ("b", "", "", "", "a")
        machine = ("ab", ((1, 1), (None, 1)), (0, 1))
        self.assertIs(accepts_windowed(machine, 0, five), True)
        for value in (list(five), five[:4], five + ("",), (five,), five[:4] + (None,), five[:4] + ("c",)):
            self.assertIs(accepts_windowed(machine, 0, value), False)
        for at in range(5):
            for odd in oddities.oddities() + [None, 0, ("a",)]:
                self.assertIs(accepts_windowed(machine, 0, five[:at] + (odd,) + five[at + 1:]), False)


class Edges(unittest.TestCase):
    def test_point_87_window_machines_of_400_states_and_more(self):
        word = distinct(400)
        self.assertEqual(len(window_machine("ab", (word[:399],), 12)[1]), 400)
        self.assertEqual(window_machine("ab", (word[:399],), 12), tree_of("ab", (word[:399],)))
        with self.assertRaises(TooLarge) as caught:
            window_machine("ab", (word,), 12)
        self.assertEqual(caught.exception.what, "states")
        # One state more or less by one more word of fewer letters.
        self.assertEqual(len(window_machine("ab", (word[:399], word), 11)[1]) > 400, False)
        self.assertRaises(TooLarge, window_machine, "ab", (distinct(1999),), 12)

    def test_point_87_the_other_functions_answer_for_every_sample(self):
        word = distinct(1000)
        sample = ("a", word[:500], word)
        self.assertIs(is_in_windows("ab", sample, 12, word[:500]), True)
        self.assertIs(is_in_windows("ab", sample, 12, word[:499]), False)
        self.assertEqual(window_paper("ab", sample, 12, word[:499]), ("out", "last"))
        self.assertIsNone(first_free_in_windows("ab", sample, 12))
        self.assertEqual(len(window_table("ab", sample, 12)[2]), 988)
        # A closure of more than 400 states: between two equal windows the number of letters matters to it alone.
        long_words = ("b" + "a" * 990, "a" * 7 + "b" + "a" * 990)
        self.assertRaises(TooLarge, closure, "ab", long_words, 12)
        free = first_free_in_windows("ab", long_words, 12)
        self.assertIs(is_in_windows("ab", long_words, 12, free) and not is_must("ab", long_words, 12, free), True)
        self.assertEqual(free, "b" + "a" * 12)

    def test_point_87_looked_states_of_windows_of_400_and_more(self):
        for k in (0, 1, 5, 12):
            # The empty word, and all words of at least k letters.
            every = oracles.machine_of("a", [(min(at + 1, k),) for at in range(k + 1)], {0, k})
            self.assertEqual(windows_of(circle("a", 400 - k), k), least_of(every))
            if k:
                with self.assertRaises(TooLarge) as caught:
                    windows_of(circle("a", 401 - k), k)
                self.assertEqual(caught.exception.what, "looked")
            self.assertEqual(windows_of(circle("a", 400, tuple(range(0, 400, 2))), k), windows_of(circle("a", 2), k))
        self.assertRaises(TooLarge, windows_of, EVERY, 12)
        self.assertIs(is_windowed(EVERY, 12), True)

    def test_point_88_machines_of_400_states(self):
        turns = [chance.sample(range(400), 400) for _ in "abcd"]
        machine = oracles.machine_of("abcd", list(zip(*turns)), set(range(0, 400, 3)))
        five = windowed_against(machine, 12)
        self.assertIs(is_windowed(machine, 12), False)
        self.assertIs(accepts_windowed(machine, 12, five), True)
        self.assertIs(is_windowed(chain("ab", 400), 12), False)
        self.assertIs(accepts_windowed(chain("ab", 400), 12, windowed_against(chain("ab", 400), 12)), True)
        self.assertIs(is_windowed(circle("ab", 400, tuple(range(400))), 0), True)

    def test_the_empty_language(self):
        for k in range(13):
            self.assertEqual(window_machine("ab", (), k), NONE)
            self.assertEqual(windows_of(NONE, k), NONE)
            self.assertIs(is_windowed(NONE, k), True)
            self.assertIsNone(windowed_against(NONE, k))
            self.assertIsNone(first_free_in_windows("ab", (), k))
            self.assertIs(is_in_windows("ab", (), k, ""), False)
            self.assertEqual(window_paper("ab", (), k, "")[0], "out")
            self.assertIs(accepts_window("ab", (), k, "", ("out", "short")), k > 0)
            self.assertIs(accepts_window("ab", (), k, "", ("out", "first")), k == 0)
            self.assertIs(accepts_window("ab", (), k, "a" * 12, ("out", "last")), True)
            self.assertIs(accepts_window("ab", (), k, "a" * 12, ("out", 0)), k < 12)

    def test_point_90_wrong_arguments(self):
        wrong = {
            "letters": oddities.LETTERS, "sample": oddities.SAMPLES, "k": oddities.LOOKS, "word": oddities.ASKED_WORDS,
            "machine": oddities.MACHINES + [chain("a", 401)],
        }
        names, right = ("letters", "sample", "k", "word"), ("ab", ("a",), 1, "b")
        for function in (window_table, window_machine, first_free_in_windows):
            oddities.check_wrong(self, function, names[:3], right[:3], wrong)
        for function in (is_in_windows, window_paper):
            oddities.check_wrong(self, function, names, right, wrong)
        oddities.check_wrong(
            self, lambda letters, sample, k, word: accepts_window(letters, sample, k, word, None), names, right, wrong,
        )
        for function in (windows_of, is_windowed, windowed_against):
            oddities.check_wrong(self, function, ("machine", "k"), (EVEN, 1), wrong)
        oddities.check_wrong(
            self, lambda machine, k: accepts_windowed(machine, k, None), ("machine", "k"), (EVEN, 1), wrong,
        )

    def test_point_90_ahead_of_too_large(self):
        self.assertTrue(oddities.is_refused(window_machine, ("ab", (distinct(1000),), 13), "k"))
        self.assertTrue(oddities.is_refused(windows_of, (circle("a", 400), -1), "k"))

    def test_point_88_equal_answers_for_machines_of_one_language(self):
        for machine in MACHINES:
            for k in (0, 1, 2):
                made = windows_of(machine, k)
                self.assertIsNone(telling_word(made, windows_of(least_of(machine), k)))


if __name__ == "__main__":
    unittest.main()
