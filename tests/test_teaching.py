"""Teaching: evidence whether a sample tells a language, and the triple that teaches it (points 136 to 146)."""

import random
import unittest

from backseen.comparing import outside_word
from backseen.errors import NotPossible, TooLarge
from backseen.joining import closure, is_must
from backseen.learning import learned
from backseen.looked import looked_machine, looked_states
from backseen.looking import has_property, is_of_look
from backseen.machines import is_least, least_of, takes, tree_of
from backseen.mirrors import reversed_machine, reversed_sample
from backseen.papers import accepts_paper, joins_for, paper_for
from backseen.single import least_look
from backseen.teaching import accepts_tells, teaching, tells_paper
from backseen.telling import first_sample, needed_words, telling_number, tells
from backseen.wholes import closure_of, first_added
import oddities
import oracles
from oddities import EVEN, EVERY, NONE, chain, circle

chance = random.Random(142)
LOOKS = (0, 1, 2, 3)
POOL = oracles.random_machines(142, 40, "ab", 4) + oracles.random_machines(143, 8, "abc", 3)
POOL += oracles.random_machines(144, 15, "a", 6)
MACHINES = POOL + [closure_of(machine, k) for machine in POOL for k in (0, 1, 2)] + [NONE, EVEN, EVERY]
TOLD = [(machine, k) for machine in MACHINES for k in LOOKS if is_of_look(machine, k)]
chance.shuffle(TOLD)
ALL_A = ("a", ((0,),), (0,))
TWO_WORDS = ("ab", ((1, 2), (None, 2), (None, None)), (2,))
NAMES = ("tells", "too little", "not within")


def few(machine):
    return oracles.all_words(machine[0], {1: 10, 2: 5, 3: 3, 4: 3}[len(machine[0])])


def words_of(machine):
    return [word for word in few(machine) if takes(machine, word)]


def samples_for(machine, k):
    """Samples that tell the language, samples that are too little, and samples with other words."""
    first, words = first_sample(machine, k), words_of(machine)
    more = tuple(chance.sample(words, min(len(words), chance.randint(0, 5))))
    found = [first, oracles.in_order(first + more), oracles.in_order(more), first[1:], first[:-1]]
    return found + [oracles.in_order(first + (chance.choice(few(machine)),)), ()]


def raised(function, *arguments):
    try:
        function(*arguments)
    except (NotPossible, TooLarge) as error:
        return getattr(error, "why", None) or error.what
    return None


def is_right(machine, k, sample, value):
    """Whether evidence is to be accepted, by what the point says and by the judges of chapter 4."""
    if value[0] == "not within":
        return value[1] in sample and not takes(machine, value[1])
    if value[0] == "too little":
        _, word, other = value
        fits = has_property(other, k) and all(takes(other, seen) for seen in sample) and not takes(other, word)
        return takes(machine, word) and fits
    _, rows, ways = value
    first = first_sample(machine, k)
    if len(ways) != len(first) or not all(takes(machine, word) for word in sample):
        return False
    if not first:
        return rows == ()
    return all(accepts_paper(machine[0], sample, k, word, ("must", rows, way)) for word, way in zip(first, ways))


class Evidence(unittest.TestCase):
    def test_point_142_which_evidence_is_returned(self):
        told = dict.fromkeys(NAMES, 0)
        for machine, k in TOLD[:260]:
            for sample in samples_for(machine, k):
                paper = tells_paper(machine, k, sample)
                if not all(takes(machine, word) for word in sample):
                    name = "not within"
                else:
                    name = "tells" if tells(machine, k, sample) else "too little"
                self.assertEqual(paper[0], name)
                told[name] += 1
                self.assertIs(type(paper), tuple)
                self.assertIs(accepts_tells(machine, k, sample, paper), True)
                self.assertTrue(is_right(machine, k, sample, paper))
                self.assertEqual(tells_paper(least_of(machine), k, sample)[0], name)
        self.assertGreater(min(told.values()), 100)

    def test_point_142_never_tells_together_with_one_of_the_others(self):
        for machine, k in TOLD[:120]:
            for sample in samples_for(machine, k):
                first = first_sample(machine, k)
                rows = joins_for(machine[0], sample, k)
                ways = tuple(
                    paper_for(machine[0], sample, k, word)[2] for word in first if is_must(machine[0], sample, k, word)
                )
                closed = closure(machine[0], sample, k)
                missing = outside_word(machine, closed)
                words = [word for word in sample if not takes(machine, word)]
                good = {
                    "tells": accepts_tells(machine, k, sample, ("tells", rows, ways)),
                    "too little": any(
                        accepts_tells(machine, k, sample, ("too little", word, closed))
                        for word in words_of(machine) + [missing] if word is not None
                    ),
                    "not within": any(accepts_tells(machine, k, sample, ("not within", word)) for word in words),
                }
                self.assertIs(good["tells"], tells(machine, k, sample))
                self.assertIs(good["too little"], missing is not None)
                self.assertIs(good["not within"], len(words) > 0)
                self.assertFalse(good["tells"] and (good["too little"] or good["not within"]))

    def test_point_142_rows_by_whomever(self):
        changed = {True: 0, False: 0}
        for machine, k in TOLD[:150]:
            sample = oracles.in_order(first_sample(machine, k) + tuple(words_of(machine)[:4]))
            paper = tells_paper(machine, k, sample)
            self.assertEqual(paper[0], "tells")
            _, rows, ways = paper
            more = rows + rows + tuple(("ends", word, word) for word in sample if len(word) >= k)
            self.assertIs(accepts_tells(machine, k, sample, ("tells", more, ways)), True)
            for at in chance.sample(range(len(rows)), min(len(rows), 5)):
                other = list(rows)
                other.insert(chance.randrange(len(rows)), other.pop(at))
                for value in (("tells", tuple(other), ways), ("tells", rows[:at] + rows[at + 1:], ways)):
                    good = is_right(machine, k, sample, value)
                    changed[good] += 1
                    self.assertIs(accepts_tells(machine, k, sample, value), good)
        self.assertGreater(min(changed.values()), 50)

    def test_point_142_superfluous_rows_up_to_2500(self):
        row = ("ends", "", "")
        for many, good in ((2500, True), (2501, False)):
            value = ("tells", (("ends", "", "a"),) + (row,) * (many - 1), (("",), ("", "")))
            self.assertIs(accepts_tells(ALL_A, 0, ("", "a"), value), good)

    def test_point_142_ways_by_whomever(self):
        # At the look 0 the beginnings of "", a and aa are all joined: any of them will do.
        sample = ("", "a", "aa")
        rows = joins_for("a", sample, 0)
        told = {True: 0, False: 0}
        for one in ("", "a", "aa", "aaa", "b"):
            for two in ("", "a", "aa", "aaa", "b"):
                for three in ("", "a", "aa", "aaa", "b"):
                    good = {one, two, three} <= {"", "a", "aa"} and two != "aa"
                    told[good] += 1
                    value = ("tells", rows, ((one,), (two, three)))
                    self.assertIs(accepts_tells(ALL_A, 0, sample, value), good)
        self.assertGreater(min(told.values()), 15)
        for ways in (
            (("",),), (("", ""), ("",)), (("",), ("", ""), ("", "", "")), (), (("",), ("",)), [("",), ("", "")],
            (("",), ["", ""]), (("",), ("", "", "")), ("", "a"), (("",), ("", None)), (("",), None), None, "", (0, 1),
        ):
            self.assertIs(accepts_tells(ALL_A, 0, sample, ("tells", rows, ways)), False)

    def test_point_142_one_thing_changed(self):
        right = ("tells", (("ends", "", "a"),), (("",), ("", "")))
        self.assertIs(accepts_tells(ALL_A, 0, ("", "a"), right), True)
        for value in (
            ("tells", (), (("",), ("", ""))), ("tells", (("ends", "a", ""),), (("",), ("", "b"))),
            ("tells", (("ends", "", "aa"),), (("",), ("", ""))), ("tells", [("ends", "", "a")], (("",), ("", ""))),
            ("tells", (["ends", "", "a"],), (("",), ("", ""))), ("tells", (("on", "", "a"),), (("",), ("", ""))),
            ("tells", (("ends", "", "a", "a"),), (("",), ("", ""))), ("tells", (("ends", "", "a"),)),
            ("tells", (("ends", "", "a"),), (("",), ("", "")), ()), list(right), ("Tells",) + right[1:],
            ("too little",) + right[1:], ("not within",) + right[1:], ("must",) + right[1:], (None,) + right[1:],
        ):
            self.assertIs(accepts_tells(ALL_A, 0, ("", "a"), value), False)
        # The same evidence for another look, another sample, another language.
        self.assertIs(accepts_tells(ALL_A, 1, ("", "a"), right), False)
        self.assertIs(accepts_tells(ALL_A, 0, ("",), right), False)
        self.assertIs(accepts_tells(ALL_A, 0, ("", "aa"), right), False)
        self.assertIs(accepts_tells(circle("a", 2), 0, ("", "a"), right), False)
        self.assertIs(accepts_tells(("a", (), ()), 0, (), ("tells", (), ())), True)
        self.assertIs(accepts_tells(("a", (), ()), 0, ("a",), ("tells", (), ())), False)
        self.assertIs(accepts_tells(("a", (), ()), 0, ("a",), ("not within", "a")), True)

    def test_point_142_the_sample_has_to_be_within(self):
        # All words of the first sample must be in, and yet the sample does not tell the language of two letters a.
        sample, even = ("", "a", "aa"), circle("a", 2)
        rows = joins_for("a", sample, 0)
        ways = tuple(paper_for("a", sample, 0, word)[2] for word in first_sample(even, 0))
        self.assertIs(accepts_tells(even, 0, sample, ("tells", rows, ways)), False)
        self.assertIs(accepts_tells(ALL_A, 0, sample, ("tells", rows, (("",), ("", "")))), True)

    def test_point_142_machines_by_whomever(self):
        told = {True: 0, False: 0}
        unlike = 0
        for machine, k in TOLD[:200]:
            words = words_of(machine)
            sample = oracles.in_order(chance.sample(words, min(len(words), 3)))
            closed = closure(machine[0], sample, k)
            missing = outside_word(machine, closed)
            for word in words[:4] + few(machine)[:3] + [missing] * (missing is not None):
                for value in (
                    closed, looked_machine(closed, k), looked_machine(closed, k + 1), machine, EVERY, NONE, ALL_A,
                    tree_of(machine[0], sample), ("abc", (), ()),
                ):
                    good = value[0] == machine[0] and is_right(machine, k, sample, ("too little", word, value))
                    told[good] += 1
                    unlike += good and not is_least(value)
                    self.assertIs(accepts_tells(machine, k, sample, ("too little", word, value)), good)
        self.assertGreater(min(told.values()), 300)
        self.assertGreater(unlike, 50)

    def test_point_142_too_little_of_any_number_of_letters(self):
        for many in (0, 1, 500, 501, 20000):
            value = ("too little", "b" + "a" * many, ("ab", ((0, None),), (0,)))
            self.assertIs(accepts_tells(EVERY, 0, ("", "a"), value), True)
            self.assertIs(accepts_tells(EVERY, 0, ("", "b"), value), False)
            self.assertIs(accepts_tells(EVEN, 0, ("",), value), many % 2 == 0)
        # Words of the sample that are not in the language do not matter here.
        self.assertIs(accepts_tells(EVEN, 0, ("a",), ("too little", "b", ("ab", ((0, None),), (0,)))), True)
        machine = ("ab", ((0, None),), (0,))
        for value in (
            ("too little", "b"), ("too little", machine, "b"), ("too little", "b", machine, ()),
            ("too little", "b", list(machine)), ("too little", ("b",), machine), ("too little", "c", machine),
            ("too little", None, machine), ["too little", "b", machine], ("Too little", "b", machine),
            ("free", "b", machine), ("too little", "a", machine), ("too little", "b", EVERY),
            ("too little", "b", ("ac", ((0, None),), (0,))), ("too little", "b", ("ab", ((True, None),), (0,))),
            ("too little", "b", ("ab", ((1, None), (0, None)), (0, 1))),
            ("too little", "b", chain("ab", 401)),
        ):
            self.assertIs(accepts_tells(EVERY, 0, ("", "a"), value), False)

    def test_point_142_not_within(self):
        for word, good in (("a", True), ("b", False), ("aa", False), ("ab", True), ("c", False), ("", False)):
            self.assertIs(accepts_tells(EVEN, 0, ("a", "b", "ab"), ("not within", word)), good)
        for value in (("not within",), ("not within", "a", "a"), ["not within", "a"], ("Not within", "a")):
            self.assertIs(accepts_tells(EVEN, 0, ("a", "b", "ab"), value), False)

    def test_points_142_and_8_values_of_any_kind(self):
        for machine, k, sample in ((ALL_A, 0, ("", "a")), (EVEN, 0, ("a",)), (NONE, 3, ()), (EVERY, 1, ("", "b"))):
            more = [("too little", "a", EVERY), ("not within", "aaa"), ("tells", (), (("",),)), ("tells",)]
            oddities.check_judge(self, lambda value: accepts_tells(machine, k, sample, value), more, NAMES)
        right = ("tells", (("ends", "", "a"),), (("",), ("", "")))
        for odd in oddities.oddities():
            for at in range(3):
                self.assertIs(accepts_tells(ALL_A, 0, ("", "a"), right[:at] + (odd,) + right[at + 1:]), False)
            self.assertIs(accepts_tells(ALL_A, 0, ("", "a"), ("tells", right[1], (("",), ("", odd)))), False)
            self.assertIs(accepts_tells(ALL_A, 0, ("", "a"), ("tells", (odd,), right[2])), False)
            self.assertIs(accepts_tells(EVERY, 0, ("",), ("too little", odd, NONE)), False)
            self.assertIs(accepts_tells(EVERY, 0, ("",), ("too little", "a", odd)), False)

    def test_point_137_a_set_that_tells_at_a_greater_look(self):
        tried = 0
        for machine, k in TOLD[:250]:
            if k + 1 not in LOOKS:
                continue
            first, words = first_sample(machine, k + 1), words_of(machine)
            self.assertLessEqual(set(first_sample(machine, k)), set(first))
            self.assertLessEqual(telling_number(machine, k), telling_number(machine, k + 1))
            sample = oracles.in_order(first[1:] + tuple(words[:6]))
            if tells(machine, k + 1, sample):
                self.assertEqual(tells_paper(machine, k, sample)[0], "tells")
                tried += 1
            self.assertEqual(tells_paper(machine, k, first)[0], "tells")
        self.assertGreater(tried, 50)

    def test_point_137_read_backward(self):
        told = {True: 0, False: 0}
        for machine, k in TOLD[:200]:
            back = reversed_machine(machine)
            self.assertEqual(telling_number(back, k), telling_number(machine, k))
            self.assertEqual(needed_words(back, k), reversed_sample(machine[0], needed_words(machine, k)))
            for sample in samples_for(machine, k):
                good = tells(machine, k, sample)
                told[good] += 1
                self.assertIs(tells(back, k, reversed_sample(machine[0], sample)), good)
        self.assertGreater(min(told.values()), 100)
        machine = ("abc", ((1, 2, 0), (None, None, None), (None, 3, 0), (None, 1, 1)), (1,))
        first, other = first_sample(machine, 1), first_sample(reversed_machine(machine), 1)
        self.assertNotEqual(reversed_sample("abc", first), other)
        self.assertIs(tells(reversed_machine(machine), 1, reversed_sample("abc", first)), True)
        self.assertIs(tells(machine, 1, reversed_sample("abc", other)), True)


class Teaching(unittest.TestCase):
    def test_point_143_the_triple(self):
        told = {}
        for machine in MACHINES[::2]:
            looks = [k for k in range(13) if is_of_look(machine, k)]
            if not looks:
                self.assertEqual(raised(teaching, machine), "look")
                told[None] = True
                continue
            k, sample, word = teaching(machine)
            told[k] = True
            self.assertEqual((k, least_look(machine)), (looks[0],) * 2)
            self.assertEqual(sample, first_sample(machine, k))
            self.assertEqual(word, None if k == 0 else first_added(machine, k - 1))
            self.assertEqual(teaching(least_of(machine)), (k, sample, word))
        self.assertLessEqual({None, 0, 1, 2}, set(told))
        self.assertEqual(teaching(NONE), (0, (), None))
        self.assertEqual(teaching(EVERY), (0, ("", "a", "b"), None))

    def test_point_143_who_is_told_these_words_answers_with_the_language(self):
        tried = 0
        for machine in MACHINES[::3]:
            if least_look(machine) is None:
                continue
            k, sample, word = teaching(machine)
            words, others = words_of(machine), [other for other in few(machine) if not takes(machine, other)]
            for _ in range(3):
                more = oracles.in_order(sample + tuple(chance.sample(words, min(len(words), 6))))
                out = chance.sample(others, min(len(others), 6)) + ([] if word is None else [word])
                self.assertEqual(learned(machine[0], more, oracles.in_order(out)), (k, least_of(machine)))
                tried += 1
        self.assertGreater(tried, 100)

    def test_point_143_no_fewer_words_will_do(self):
        told = 0
        for machine in MACHINES[::3]:
            if least_look(machine) is None:
                continue
            k, sample, _ = teaching(machine)
            words, others = words_of(machine), [other for other in few(machine) if not takes(machine, other)]
            for _ in range(20):
                within = oracles.in_order(chance.sample(words, chance.randint(0, min(len(words), len(sample) + 1))))
                out = oracles.in_order(chance.sample(others, chance.randint(0, min(len(others), 4))))
                found = learned(machine[0], within, out)
                if found is not None and found[1] == least_of(machine):
                    told += 1
                    self.assertEqual(found[0], k)
                    self.assertGreaterEqual(len(within), len(sample))
                    self.assertTrue(k == 0 or len(out) > 0)
        self.assertGreater(told, 50)

    def test_point_143_looks_from_0_to_12(self):
        for k in range(13):
            # The words of k and of k + 1 letters a are of look k + 1, and of no smaller one.
            machine = chain("a", k + 2, (k, k + 1))
            if k == 12:
                self.assertEqual(raised(teaching, machine), "look")
                continue
            self.assertEqual(teaching(machine), (k + 1, ("a" * k, "a" * (k + 1)), "a" * (k + 2)))
            self.assertEqual(
                learned("a", ("a" * k, "a" * (k + 1)), ("a" * (k + 2),)), (k + 1, machine),
            )
        self.assertEqual(raised(teaching, chain("a", 29, (27, 28))), "look")

    def test_point_143_words_of_more_than_500_letters(self):
        machine = circle_and_word(398)
        k, sample, word = teaching(machine)
        self.assertEqual((k, sample, word), (1, ("", "b", "a" * 398, "a" * 398 + "b", "a" * 796), "bb"))
        self.assertEqual(learned("ab", sample, (word,)), (1, machine))

    def test_points_145_and_146_examples(self):
        self.assertEqual(teaching(TWO_WORDS), (1, ("b", "ab"), "aab"))
        self.assertEqual(telling_number(TWO_WORDS, 1), 2)
        self.assertEqual(needed_words(TWO_WORDS, 1), ("b", "ab"))
        self.assertEqual(len(looked_states(TWO_WORDS, 1)), 3)
        self.assertEqual(closure("ab", ("b", "ab"), 0), ("ab", ((0, 1), (None, None)), (1,)))
        self.assertEqual(first_added(TWO_WORDS, 0), "aab")
        self.assertEqual(learned("ab", ("b", "ab"), ("aab",)), (1, TWO_WORDS))
        self.assertEqual(teaching(ALL_A), (0, ("", "a"), None))
        self.assertEqual(teaching(EVEN), (0, ("", "b", "aa", "aba"), None))
        self.assertEqual(tells_paper(ALL_A, 1, ("", "a", "aa"))[0], "tells")


class Errors(unittest.TestCase):
    def told(self, machine, k, sample):
        found = [raised(tells_paper, machine, k, sample)]
        for value in (None, ("tells", (), ()), oddities.nested(tuple), ("not within", "a")):
            found.append(raised(accepts_tells, machine, k, sample, value))
        self.assertEqual(len(set(found[1:])), 1)
        return found[0], found[1]

    def test_point_144_languages_that_are_not_of_the_look(self):
        for k in (0, 1, 5, 12):
            machine = chain("ab", k + 2, (k, k + 1))
            for sample in ((), ("a" * k,), ("b",)):
                self.assertEqual(self.told(machine, k, sample), ("look", "look"))
        # More than 400 looked states, too: the look comes first.
        self.assertEqual(self.told(circle("a", 400, (0, 1)), 12, ("a",)), ("look", "look"))
        self.assertEqual(raised(teaching, circle("a", 400, (0, 1))), "look")

    def test_point_144_more_than_400_looked_states(self):
        for k in (1, 12):
            fit, large = circle("a", 400 - k), circle("a", 400 - k + 1)
            self.assertEqual(len(looked_states(fit, k)), 400)
            self.assertEqual(self.told(fit, k, ("a",)), (None, None))
            for sample in ((), ("",), ("a",), ("", "a" * (401 - k), "a" * (2 * (401 - k)))):
                self.assertEqual(self.told(large, k, sample), ("looked", "looked"))

    def test_point_144_teaching_of_400_looked_states_and_more(self):
        for many, told in ((398, None), (399, "looked")):
            machine = circle_and_word(many)
            self.assertTrue(is_of_look(machine, 1) and not is_of_look(machine, 0))
            self.assertEqual(raised(teaching, machine), told)
            self.assertEqual(raised(looked_states, machine, 1), told)
        # Too many looked states come ahead of too many words.
        for k, told in ((2, None), (4, "words"), (5, "words"), (6, "looked"), (12, "looked")):
            rows = [(at + 1 if at < k else None, k + 1 if at == 0 else None, None, None) for at in range(k + 1)]
            machine = oracles.machine_of("abcd", rows + [(None,) + (k + 1,) * 3], {k - 1, k, k + 1})
            self.assertTrue(is_of_look(machine, k) and not is_of_look(machine, k - 1))
            self.assertEqual(raised(looked_states, machine, k), "looked" if told == "looked" else None)
            self.assertEqual(raised(teaching, machine), told)

    def test_point_144_first_samples_of_200_words_and_more(self):
        for many, told in ((200, None), (201, "words")):
            words = two_and_more(many)
            machine = word_machine(words)
            self.assertEqual(telling_number(machine, 12), many)
            self.assertEqual(raised(first_sample, machine, 12), told)
            self.assertEqual(raised(teaching, machine), told)
            if told is None:
                self.assertEqual(teaching(machine), (12, words, first_added(machine, 11)))
            # A language whose first sample is no sample is told by no sample.
            paper = tells_paper(machine, 12, words[:200])
            self.assertEqual(paper[0], "tells" if told is None else "too little")
            self.assertIs(accepts_tells(machine, 12, words[:200], paper), True)
            value = ("tells", (), tuple(tuple(word[:at] for at in range(len(word) + 1)) for word in words))
            self.assertIs(accepts_tells(machine, 12, words[:200], value), told is None)

    def test_point_144_first_samples_of_2000_letters_and_more(self):
        for many, beside, told in ((40, 49, None), (69, 28, "words")):
            machine = circle_with_more(many, beside)
            self.assertLess(telling_number(machine, 0), 200)
            self.assertEqual(raised(teaching, machine), told)
            if told is None:
                k, first, word = teaching(machine)
                self.assertEqual((k, word, sum(map(len, first))), (0, None, 2000))
                paper = tells_paper(machine, 0, first)
                self.assertEqual(paper[0], "tells")
                self.assertIs(accepts_tells(machine, 0, first, paper), True)
            else:
                paper = tells_paper(machine, 0, ("",))
                self.assertEqual(paper[0], "too little")
                self.assertIs(accepts_tells(machine, 0, ("",), paper), True)

    def test_point_144_closures_of_400_states_and_more(self):
        for many, told in ((399, None), (400, "states")):
            self.assertEqual(raised(tells_paper, EVERY, 0, ("a" * many,)), told)
            self.assertEqual(raised(closure, "ab", ("a" * many,), 0), told)
            # The judge does not ask how many states there are.
            self.assertIs(accepts_tells(EVERY, 0, ("a" * many,), ("too little", "", circle("ab", 1, ()))), False)
            shorter = ("ab", ((1, None), (1, None)), (1,))
            self.assertIs(accepts_tells(EVERY, 1, ("a" * many,), ("too little", "", shorter)), True)
            if told is None:
                self.assertEqual(tells_paper(EVERY, 0, ("a" * many,))[:2], ("too little", ""))
        # Outside of the language, and telling the language: then it does not matter.
        self.assertEqual(tells_paper(EVEN, 0, ("a" * 2,) + ("a" * 999,)), ("not within", "a" * 999))
        large = circle("a", 399)
        sample = ("", "a" * 399, "a" * 798)
        self.assertEqual(tells_paper(large, 1, sample)[0], "tells")
        self.assertEqual(raised(tells_paper, large, 1, sample[1:]), None)
        self.assertEqual(raised(tells_paper, large, 1, sample[2:]), "states")

    def test_point_144_bad_values_come_first(self):
        wrong = {
            "machine": oddities.MACHINES + [chain("a", 401)], "k": oddities.LOOKS, "sample": oddities.SAMPLES,
        }
        for machine in (EVEN, chain("ab", 3, (1, 2))):
            names, right = ("machine", "k", "sample"), (machine, 0, ("b",))
            oddities.check_wrong(self, tells_paper, names, right, wrong)
            for value in (None, ("tells", (), ())):
                oddities.check_wrong(self, lambda *rest: accepts_tells(*rest, value), names, right, wrong)
        oddities.check_wrong(self, teaching, ("machine",), (EVEN,), wrong)


def circle_and_word(many):
    """The words of any number of times so many letters a, each also with one b at the end."""
    rows = tuple((at + 1 if at + 1 < many else 0, many if at == 0 else None) for at in range(many))
    return oracles.machine_of("ab", rows + ((None, None),), {0, many})


def two_and_more(many):
    """So many words: those of 11 and of 12 letters a, which are of look 12 together, and words of other letters."""
    return oracles.in_order(oracles.all_words("bcd", 5)[1:many - 1] + ["a" * 11, "a" * 12])


def word_machine(words):
    """The tree of the words, which may be more than a sample has."""
    number = {word: at for at, word in enumerate(oracles.beginnings(words))}
    rows = [tuple(number.get(word + letter) for letter in "abcd") for word in number]
    return oracles.machine_of("abcd", rows, {number[word] for word in words})


def circle_with_more(many, beside):
    """A circle of so many states by the letter a, beside which so many edges go along with the letters b and c."""
    rows = [
        tuple((at + 1) % many if letter == 0 or at + (letter - 1) * many < beside else None for letter in range(3))
        for at in range(many)
    ]
    return oracles.machine_of("abc", rows, {0})


if __name__ == "__main__":
    unittest.main()
