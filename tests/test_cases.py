"""One word more: its case, and what it makes of the seen machine (points 118 to 123, 129 and 130)."""

import itertools
import random
import unittest

from backseen.cases import case_of, changed
from backseen.joining import is_must, seen_machine
from backseen.machines import first_words, is_machine, last_words, takes
import oddities
import oracles

chance = random.Random(118)
SAMPLES = oracles.random_samples(118, 70, "ab", 5, 4) + oracles.random_samples(119, 20, "abc", 4, 3) + [
    (), ("",), ("a",), ("ab", "abb"), ("aa", "ba"), ("", "aaaa"), ("b", "aac"),
]
LOOKS = (0, 1, 2, 3)
KINDS = ("taken", "alone", "end", "way", "join")


def letters_of(sample):
    return "abc" if "c" in "".join(sample) else "ab"


def leads_of(machine, k):
    return [oracles.lead(word, k) for word in first_words(machine)]


def plain_case(letters, sample, k, word):
    """The case as points 119 to 121 tell it, and with it the states p and q."""
    machine = seen_machine(letters, sample, k)
    leads = leads_of(machine, k)
    if takes(machine, word):
        return ("taken",), None, None
    if not sample:
        return ("alone", word), None, None
    x = max((word[:at] for at in range(len(word) + 1) if oracles.state_behind(machine, word[:at]) is not None), key=len)
    p, r = oracles.state_behind(machine, x), word[len(x):]
    matched = [end for end in machine[2] if len(leads[end]) == k and len(word) >= k and word.endswith(leads[end])]
    if not matched:
        return (("end", x) if r == "" else ("way", x, r, None)), p, None
    assert len(matched) == 1
    q, y = matched[0], ""
    while len(y) < len(r):
        u, a = word[:len(word) - len(y) - 1], word[len(word) - len(y) - 1]
        sources = [
            at for at, row in enumerate(machine[1])
            if row[letters.index(a)] == q and len(leads[at]) == k and len(u) >= k and u.endswith(leads[at])
        ]
        if not sources:
            break
        assert len(sources) == 1
        q, y = sources[0], a + y
    t = r[:len(r) - len(y)]
    return (("join", x, y) if t == "" else ("way", x, t, y)), p, q


def plain_change(letters, sample, k, case, p, q):
    """The machine made as point 122 tells it, and the images of the states."""
    machine = seen_machine(letters, sample, k)
    rows, ends, leads = [list(row) for row in machine[1]], set(machine[2]), leads_of(machine, k)
    label = list(range(len(rows)))
    if case[0] == "end":
        ends.add(p)
    elif case[0] == "way":
        here, t = p, case[2]
        for at, letter in enumerate(t):
            last = at == len(t) - 1
            if last and q is not None:
                rows[here][letters.index(letter)] = q
            else:
                rows[here][letters.index(letter)] = len(rows)
                here = len(rows)
                rows.append([None] * len(letters))
        if q is None:
            ends.add(here)
        label = list(range(len(rows)))
    elif case[0] == "join":
        label = joined_labels(letters, rows, ends, leads, k, p, q)
    number = {at: None for at in label}
    table = {
        at: [
            next((label[row[i]] for other, row in enumerate(rows) if label[other] == at and row[i] is not None), None)
            for i in range(len(letters))
        ]
        for at in number
    }
    order = sorted(number)
    made = [[None if to is None else order.index(to) for to in table[at]] for at in order]
    result = oracles.machine_of(letters, made, {order.index(label[end]) for end in ends}, order.index(label[0]))
    words = first_words(machine)
    return result, tuple(oracles.state_behind(result, word) for word in words), label


def joined_labels(letters, rows, ends, leads, k, p, q):
    label = list(range(len(rows)))

    def join(one, other):
        old, new = label[one], label[other]
        for at in range(len(label)):
            if label[at] == old:
                label[at] = new

    join(p, q)
    while True:
        before = list(label)
        for s, t in itertools.combinations(range(len(rows)), 2):
            alike = len(leads[s]) == k and leads[s] == leads[t]
            if alike and s in ends and t in ends:
                join(s, t)
            for i in range(len(letters)):
                to, other = rows[s][i], rows[t][i]
                if to is not None and other is not None:
                    if label[s] == label[t]:
                        join(to, other)
                    if alike and label[to] == label[other]:
                        join(s, t)
        if label == before:
            return label


class Cases(unittest.TestCase):
    def test_points_119_to_121_cases(self):
        told = dict.fromkeys(KINDS, 0)
        gone_back = 0
        for sample in SAMPLES:
            letters = letters_of(sample)
            for k in LOOKS:
                for word in oracles.all_words(letters, 5 if letters == "ab" else 3) + ["ababab", "bbbbbbba"]:
                    case, p, q = plain_case(letters, sample, k, word)
                    found = case_of(letters, sample, k, word)
                    self.assertEqual(found, case)
                    told[case[0]] += 1
                    gone_back += case[0] == "way" and bool(case[3])
                    if case[0] == "join":
                        leads = leads_of(seen_machine(letters, sample, k), k)
                        self.assertTrue(p != q and leads[p] == leads[q] and len(leads[p]) == k)
                    if case[0] in ("end", "way", "join"):
                        self.assertEqual("".join(part or "" for part in case[1:]), word)
                    self.assertEqual(case[0] == "taken", is_must(letters, sample, k, word))
        self.assertGreater(min(told.values()), 20)
        self.assertGreater(gone_back, 50)

    def test_point_122_the_machine_is_made_as_the_case_tells(self):
        told = dict.fromkeys(KINDS, 0)
        for sample in SAMPLES:
            letters = letters_of(sample)
            for k in LOOKS:
                words = oracles.all_words(letters, 4 if letters == "ab" else 3)
                for word in chance.sample(words, 12) + list(sample[:1]):
                    case, p, q = plain_case(letters, sample, k, word)
                    told[case[0]] += 1
                    found = changed(letters, sample, k, word)
                    self.assertIs(type(found), tuple)
                    machine, images = found
                    self.assertIs(is_machine(machine), True)
                    self.assertEqual(machine, seen_machine(letters, oracles.in_order(sample + (word,)), k))
                    old = seen_machine(letters, sample, k)
                    self.assertEqual(len(images), len(old[1]))
                    if case[0] == "taken":
                        self.assertEqual((machine, images), (old, tuple(range(len(old[1])))))
                    elif case[0] == "alone":
                        self.assertEqual(images, ())
                    else:
                        made, made_images, label = plain_change(letters, sample, k, case, p, q)
                        self.assertEqual((machine, images), (made, made_images))
                        for one, other in itertools.combinations(range(len(images)), 2):
                            self.assertEqual(images[one] == images[other], label[one] == label[other])
        self.assertGreater(min(told.values()), 20)

    def test_point_122_how_many_states_there_are(self):
        for sample in SAMPLES:
            letters = letters_of(sample)
            for k in (0, 1, 2):
                many = len(seen_machine(letters, sample, k)[1])
                for word in oracles.all_words(letters, 3):
                    case = case_of(letters, sample, k, word)
                    made = len(changed(letters, sample, k, word)[0][1])
                    if case[0] == "end":
                        self.assertEqual(made, many)
                    elif case[0] == "way":
                        self.assertEqual(made, many + len(case[2]) - (case[3] is not None))
                    elif case[0] == "join":
                        self.assertLess(made, many)

    def test_point_123_other_words_to_p_and_from_q(self):
        tried = 0
        for sample in SAMPLES[:60]:
            letters = letters_of(sample)
            for k in (0, 1):
                machine = seen_machine(letters, sample, k)
                words = oracles.all_words(letters, 3)
                led = {}
                for word in words:
                    led.setdefault(oracles.state_behind(machine, word), []).append(word)
                for word in chance.sample(words, 8):
                    case, p, q = plain_case(letters, sample, k, word)
                    if case[0] not in ("end", "way", "join"):
                        continue
                    rest = word[len(case[1]):]
                    for other in led[p][:4]:
                        tried += 1
                        self.assertEqual(case_of(letters, sample, k, other + rest), (case[0], other) + case[2:])
                        self.assertEqual(changed(letters, sample, k, other + rest), changed(letters, sample, k, word))
                    if q is None:
                        continue
                    ways = [way for way in words if oracles.state_behind(machine, way, q) in machine[2]]
                    for way in ways[:4] + [last_words(machine)[q]]:
                        ahead = word[:len(word) - len(case[-1])]
                        self.assertEqual(changed(letters, sample, k, ahead + way), changed(letters, sample, k, word))
                        found = case_of(letters, sample, k, ahead + way)
                        if case[0] == "way":
                            self.assertEqual(found, case[:3] + (way,))
                        else:
                            self.assertEqual(found[0], "join")
        self.assertGreater(tried, 300)
        seen = ("b", "aac")
        self.assertEqual(case_of("abc", seen, 0, "ab"), ("join", "a", "b"))
        self.assertEqual(case_of("abc", seen, 0, "aaac"), ("join", "aa", "ac"))
        made = ("abc", ((0, 1, 1), (None, None, None)), (1,))
        self.assertEqual([changed("abc", seen, 0, word)[0] for word in ("ab", "aaac")], [made, made])

    def test_point_118_of_states_with_one_lead(self):
        for sample in SAMPLES:
            letters = letters_of(sample)
            for k in LOOKS:
                machine = seen_machine(letters, sample, k)
                leads = leads_of(machine, k)
                keys = [("end", leads[end]) for end in machine[2] if len(leads[end]) == k]
                for at, row in enumerate(machine[1]):
                    if len(leads[at]) == k:
                        keys.extend((letter, to, leads[at]) for letter, to in zip(letters, row) if to is not None)
                    else:
                        self.assertEqual(first_words(machine)[at], leads[at])
                        self.assertEqual(leads.count(leads[at]), 1)
                self.assertEqual(len(keys), len(set(keys)))

    def test_point_119_without_any_word(self):
        for k in range(13):
            for word in ("", "a", "ab", "ab" * 50):
                self.assertEqual(case_of("ab", (), k, word), ("alone", word))
                machine, images = changed("ab", (), k, word)
                self.assertEqual((machine, images), (seen_machine("ab", (word,), k), ()))

    def test_point_130_example(self):
        self.assertEqual(case_of("ab", ("ab", "abb"), 1, "aab"), ("way", "a", "a", "b"))
        self.assertEqual(changed("ab", ("ab", "abb"), 1, "aab")[0], ("ab", ((1, None), (1, 2), (None, 2)), (2,)))
        for many in range(2, 13):
            for length in range(1, 2 * many):
                case = case_of("a", ("", "a" * many), 0, "a" * length)
                self.assertEqual(case[0], "taken" if length == many else "join")

    def test_point_129_words_of_100_letters_and_large_samples(self):
        words = ["".join("ab"[number >> at & 1] for at in range(12)) for number in range(100, 3600, 300)]
        sample = oracles.in_order(words)
        self.assertEqual(len(sample), 12)
        for k in (0, 5, 12):
            for word in ("ab" * 50, "a" * 100, "b" * 100):
                case, _, _ = plain_case("ab", sample, k, word)
                self.assertEqual(case_of("ab", sample, k, word), case)
                machine, images = changed("ab", sample, k, word)
                self.assertEqual(machine, seen_machine("ab", oracles.in_order(sample + (word,)), k))
                self.assertEqual(len(images), len(seen_machine("ab", sample, k)[1]))

    def test_point_129_wrong_arguments(self):
        wrong = {
            "letters": oddities.LETTERS, "sample": oddities.SHORT_SAMPLES, "k": oddities.LOOKS,
            "word": oddities.WORDS + ["a" * 101, "ab" * 51],
        }
        for function in (case_of, changed):
            oddities.check_wrong(self, function, ("letters", "sample", "k", "word"), ("ab", ("a",), 1, "ab"), wrong)


if __name__ == "__main__":
    unittest.main()
