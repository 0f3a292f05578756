"""Learning: learners, what is shown to them, and what two sides teach (points 148 to 156)."""

import random
import unittest

from backseen.cases import case_of
from backseen.comparing import outside_word
from backseen.errors import NotPossible, TooLarge
from backseen.joining import closure, is_must, seen_machine
from backseen.learning import Learner, first_missing, learned, shown_words
from backseen.looked import looked_machine, looked_states
from backseen.looking import is_of_look
from backseen.machines import is_machine, least_of, takes, tree_of
from backseen.sides import are_apart
from backseen.teaching import teaching
from backseen.telling import first_sample, telling_number, tells, thinned
from backseen.wholes import closure_of
from backseen.words import is_sample
import oddities
import oracles
from oddities import EVEN, EVERY, NONE, chain, circle

chance = random.Random(148)
ALL_A = ("a", ((0,),), (0,))
STARS = ("ab", ((1, None), (2, None), (None, 1)), (1,))
POOL = oracles.random_machines(148, 40, "ab", 4) + oracles.random_machines(149, 15, "a", 6)
MACHINES = POOL + [closure_of(machine, k) for machine in POOL for k in (0, 1)] + [NONE, EVEN, EVERY]
OF_LOOK = [(machine, k) for machine in MACHINES for k in (0, 1, 2, 3) if is_of_look(machine, k)]
chance.shuffle(OF_LOOK)


def few(machine):
    return oracles.all_words(machine[0], {1: 12, 2: 5, 3: 3, 4: 3}[len(machine[0])])


def words_of(machine):
    return [word for word in few(machine) if takes(machine, word)]


def raised(function, *arguments):
    try:
        function(*arguments)
    except (NotPossible, TooLarge) as error:
        return getattr(error, "why", None) or error.what
    return None


def sizes(letters, words, k):
    """How many states the least machine of the closure has, and its telling number, by chapters 4 and 11."""
    made = closure(letters, words, k)
    return len(made[1]), telling_number(made, k)


def given(letters, k, words):
    """A learner to whom the words were given, and the words for which `add` returned True."""
    learner = Learner(letters, k)
    return learner, [word for word in words if learner.add(word)]


class Slow:
    """A learner that works out everything anew, by the functions of earlier chapters."""

    def __init__(self, letters, k):
        self.letters, self.k, self.held, self.entries = letters, k, (), []

    def note(self, deed, word, held, changed, case):
        before, after = sizes(self.letters, self.held, self.k), sizes(self.letters, held, self.k)
        self.held = held
        self.entries.append((deed, word, changed, case, before, after))
        return changed

    def add(self, word):
        changed = not is_must(self.letters, self.held, self.k, word)
        case = case_of(self.letters, self.held, self.k, word)
        return self.note("add", word, oracles.in_order(self.held + (word,)), changed, case)

    def take_back(self, word):
        held = tuple(other for other in self.held if other != word)
        return self.note("take back", word, held, not is_must(self.letters, held, self.k, word), None)


class Learners(unittest.TestCase):
    def state(self, learner):
        return learner.words(), learner.machine(), learner.log()

    def test_points_148_to_151_many_deeds(self):
        seen = {}
        for turn in range(130):
            letters, k = chance.choice(("a", "ab", "ab", "abc")), chance.choice((0, 0, 1, 1, 2, 3, 12))
            learner, slow = Learner(letters, k), Slow(letters, k)
            pool = few((letters,))
            for _ in range(12):
                word = chance.choice(pool)
                if slow.held and chance.random() < 0.3:
                    word = chance.choice(slow.held)
                if word in slow.held and chance.random() < 0.6:
                    self.assertIs(learner.take_back(word), slow.take_back(word))
                elif len(slow.held) < 12:
                    self.assertIs(learner.add(word), slow.add(word))
                self.assertEqual(learner.words(), slow.held)
                self.assertIs(type(learner.words()), tuple)
                self.assertEqual(learner.machine(), closure(letters, slow.held, k))
                self.assertEqual(learner.log(), slow.entries)
                other = chance.choice(pool)
                self.assertIs(learner.takes(other), is_must(letters, slow.held, k, other))
            for deed, _, changed, case, _, _ in learner.log():
                seen[deed, changed, None if case is None else case[0]] = True
        self.assertEqual(set(seen), {
            ("add", True, "alone"), ("add", True, "end"), ("add", True, "way"), ("add", True, "join"),
            ("add", False, "taken"), ("take back", True, None), ("take back", False, None),
        })

    def test_point_148_a_new_learner(self):
        for k in range(13):
            learner = Learner("abc", k)
            self.assertEqual(self.state(learner), ((), ("abc", (), ()), []))
            self.assertIs(learner.takes(""), False)
            self.assertEqual(raised(learner.take_back, ""), "word")
            self.assertIs(learner.add("ab"), True)
            self.assertEqual(learner.log(), [("add", "ab", True, ("alone", "ab"), (0, 0), (3, 1))])
            self.assertIs(learner.take_back("ab"), True)
            self.assertEqual(learner.log()[1], ("take back", "ab", True, None, (3, 1), (0, 0)))
            self.assertEqual(learner.machine(), ("abc", (), ()))

    def test_point_149_a_word_is_held_once(self):
        learner = Learner("a", 0)
        told = [learner.add(word) for word in ("a", "a", "aa", "aa", "aaa", "a")]
        self.assertEqual(told, [True, False, True, False, False, False])
        self.assertEqual(learner.words(), ("a", "aa", "aaa"))
        self.assertEqual(len(learner.log()), 6)
        self.assertIs(learner.take_back("aaa"), False)
        self.assertEqual(raised(learner.take_back, "aaa"), "word")
        self.assertIs(learner.takes("aaa"), True)
        self.assertEqual(learner.words(), ("a", "aa"))

    def test_point_149_200_words_and_more(self):
        for k in (0, 12):
            words = oracles.all_words("ab", 7)[:201]
            learner, _ = given("ab", k, words[:200])
            self.assertEqual(learner.words(), tuple(words[:200]))
            before = self.state(learner)
            for word in words[200:] + ["bb" * 100]:
                self.assertEqual(raised(learner.add, word), "words")
                self.assertEqual(self.state(learner), before)
            # At the look 0 this word is in the language, but it is not held.
            self.assertIs(learner.takes(words[200]), k == 0)
            for word in ("", words[199], words[77]):
                self.assertIs(learner.add(word), False)
                self.assertEqual(learner.log()[-1][3], ("taken",))
            self.assertEqual(len(learner.log()), 203)
            self.assertIs(learner.take_back(words[3]), k == 12)
            self.assertIs(learner.add(words[200]), k == 12)
            self.assertEqual(raised(learner.add, words[3]), "words")

    def test_point_149_2000_letters_and_more(self):
        words = ["a" * 500, "b" * 500, "ab" * 250, "ba" * 249 + "b"]
        learner, _ = given("ab", 1, words)
        self.assertEqual(sum(map(len, learner.words())), 1999)
        self.assertEqual(raised(learner.add, "aa"), "words")
        self.assertIs(learner.add("b"), True)
        self.assertEqual(sum(map(len, learner.words())), 2000)
        before = learner.words(), learner.log()
        for word in ("a", "bb", "ab" * 249):
            self.assertEqual(raised(learner.add, word), "words")
        self.assertEqual((learner.words(), learner.log()), before)
        self.assertIs(learner.add("a" * 500), False)
        # The empty word has no letters.
        self.assertIs(learner.add(""), True)
        self.assertEqual(len(learner.words()), 6)
        self.assertEqual(len(learner.log()), 7)
        for word in learner.words():
            self.assertIs(learner.takes(word), True)

    def test_points_150_and_151_not_held_though_in_the_language(self):
        learner, _ = given("a", 0, ("", "a"))
        before = self.state(learner)
        self.assertIs(learner.takes("aaa"), True)
        self.assertEqual(raised(learner.take_back, "aaa"), "word")
        self.assertEqual(self.state(learner), before)

    def test_point_151_more_than_400_states_in_the_machine_but_not_in_the_log(self):
        for many, told in ((399, None), (400, "states"), (500, "states")):
            learner, _ = given("ab", 12, ("a" * many,))
            self.assertEqual(raised(learner.machine), told)
            self.assertEqual(learner.log(), [("add", "a" * many, True, ("alone", "a" * many), (0, 0), (many + 1, 1))])
        learner, _ = given("ab", 12, ("a" * 500, "b" * 500, "ab" * 250))
        self.assertEqual(raised(learner.machine), "states")
        self.assertEqual(learner.log()[-1][4:], ((1000, 2), (1497, 3)))
        self.assertIs(learner.take_back("b" * 500), True)
        self.assertEqual(learner.log()[-1][4:], ((1497, 3), (999, 2)))
        for k, number in ((0, 3), (1, 7), (5, 127)):
            learner, _ = given("ab", k, oracles.all_words("ab", k + 1))
            self.assertEqual(learner.log()[-1][5], (1, number))
            self.assertEqual(telling_number(EVERY, k), number)

    def test_point_151_lists_are_new_and_twins_are_apart(self):
        learner, _ = given("ab", 0, ("a", "aab"))
        self.assertIsNot(learner.log(), learner.log())
        learner.log().append(None)
        learner.log()[0] = None
        before = self.state(learner)
        self.assertEqual(len(before[2]), 2)
        twin = learner.twin()
        self.assertIsInstance(twin, Learner)
        self.assertIsNot(twin, learner)
        self.assertEqual(self.state(twin), before)
        twin.add("b")
        twin.take_back("aab")
        self.assertEqual(self.state(learner), before)
        middle = self.state(twin)
        self.assertNotEqual(middle, before)
        learner.add("bb")
        self.assertEqual(self.state(twin), middle)
        third = twin.twin()
        third.add("aab")
        self.assertEqual(third.log()[-1][4], twin.log()[-1][5])
        self.assertEqual(self.state(twin), middle)
        self.assertTrue(oddities.is_refused(third.add, ("c",), "word"))
        self.assertEqual(third.twin().log(), third.log())

    def test_point_151_what_raises_an_error_changes_nothing(self):
        learner, _ = given("ab", 1, ("a", "ab", "abb"))
        before = self.state(learner)
        for call in (learner.add, learner.take_back, learner.takes):
            for word in oddities.ASKED_WORDS + oddities.oddities():
                self.assertTrue(oddities.is_refused(call, (word,), "word"))
        self.assertEqual(raised(learner.take_back, "b"), "word")
        for _ in range(2):
            learner.words(), learner.machine(), learner.log(), learner.takes("b"), learner.twin()
        self.assertEqual(self.state(learner), before)
        self.assertIs(learner.add("b" * 500), True)

    def test_point_8_wrong_arguments_of_learners(self):
        wrong = {"letters": oddities.LETTERS, "k": oddities.LOOKS}
        oddities.check_wrong(self, Learner, ("letters", "k"), ("ab", 0), wrong)

    def test_point_152_the_set_of_words_alone(self):
        for _ in range(40):
            words = [chance.choice(few(EVERY)) for _ in range(6)]
            k = chance.choice((0, 1, 2))
            one, _ = given("ab", k, words)
            chance.shuffle(words)
            other, _ = given("ab", k, ["bbb"] + words + ["aaa"])
            for word in ("bbb", "aaa"):
                if word not in words:
                    other.take_back(word)
            self.assertEqual((one.words(), one.machine()), (other.words(), other.machine()))
            self.assertEqual(one.log()[-1][5], other.log()[-1][5])

    def test_point_152_greater_exactly_if_add_returns_true(self):
        steps = {}
        for _ in range(120):
            letters, k = chance.choice(("a", "ab", "ab")), chance.choice((0, 0, 1, 2))
            learner, true = Learner(letters, k), 0
            for _ in range(8):
                before = learner.machine()
                changed = learner.add(chance.choice(few((letters,))))
                after = learner.machine()
                true += changed
                self.assertIsNone(outside_word(before, after))
                self.assertIs(outside_word(after, before) is not None, changed)
                _, _, _, case, sizes_before, sizes_after = learner.log()[-1]
                step = sizes_after[1] - sizes_before[1]
                steps[case[0], (step > 0) - (step < 0)] = True
                if case[0] == "taken":
                    self.assertEqual(sizes_before, sizes_after)
                elif case[0] != "join":
                    self.assertEqual(step, 1)
                else:
                    self.assertLessEqual(step, 1)
                self.assertIs(case == ("taken",), not changed)
                self.assertGreaterEqual(true, sizes_after[1])
        self.assertLessEqual({("join", 1), ("join", 0), ("join", -1), ("way", 1), ("end", 1)}, set(steps))

    def test_point_152_words_for_which_add_returned_true(self):
        for _ in range(60):
            k = chance.choice((0, 1, 2))
            learner, true = given("ab", k, [chance.choice(few(EVERY)) for _ in range(8)])
            self.assertEqual(closure("ab", oracles.in_order(true), k), learner.machine())
            # The words of one language exactly are those that add nothing.
            for word in few(EVERY)[:20]:
                self.assertIs(learner.twin().add(word), not learner.takes(word))

    def test_point_152_words_that_tell(self):
        for machine, k in OF_LOOK[:60]:
            learner, _ = given(machine[0], k, first_sample(machine, k))
            self.assertEqual(learner.machine(), least_of(machine))
            for word in few(machine)[:25]:
                self.assertIs(learner.twin().add(word), not takes(machine, word))

    def test_point_156_whoever_gives_words_until_the_language_is_told(self):
        for machine, k in OF_LOOK[:60]:
            first = first_sample(machine, k)
            words = list(first) + words_of(machine)[:15]
            chance.shuffle(words)
            learner, true = given(machine[0], k, words)
            self.assertEqual(learner.machine(), least_of(machine))
            for word in few(machine):
                beyond = [sum(1 for other in told if oracles.place(other) > oracles.place(word))
                          for told in (true, first)]
                self.assertGreaterEqual(*beyond)
            self.assertGreaterEqual(len(true), len(first))


class Missing(unittest.TestCase):
    def test_point_153_first_missing(self):
        told = {True: 0, False: 0}
        for machine in MACHINES:
            for k in (0, 1, 2):
                sample = oracles.in_order(chance.sample(few(machine), chance.randint(0, 4)))
                word = first_missing(machine, k, sample)
                missing = outside_word(machine, closure(machine[0], sample, k))
                self.assertEqual(word, missing)
                told[word is None] += 1
                plain = [other for other in words_of(machine) if not is_must(machine[0], sample, k, other)]
                if plain or (word is not None and len(word) < 4):
                    self.assertEqual(word, plain[0])
        self.assertGreater(min(told.values()), 20)

    def test_point_153_closures_of_any_number_of_states(self):
        self.assertEqual(first_missing(ALL_A, 12, ("a" * 999,)), "")
        self.assertEqual(first_missing(ALL_A, 0, ("", "a" * 999, "a" * 1000)), None)
        self.assertEqual(first_missing(chain("a", 400), 0, ()), "a" * 399)
        self.assertEqual(first_missing(circle("a", 2), 0, ("", "a" * 400)), "aa")
        # The language need not be of the look, and the sample need not lie in it.
        self.assertEqual(first_missing(chain("a", 3, (1, 2)), 0, ("", "aa")), "a")
        self.assertEqual(first_missing(chain("a", 3, (1, 2)), 0, ("", "a")), None)
        self.assertEqual(first_missing(NONE, 5, ("ab",)), None)

    def test_point_153_learned(self):
        told = {}
        for _ in range(250):
            letters = chance.choice(("a", "ab", "ab"))
            sample = oracles.random_sample(chance, letters, 5, 5)
            outside = oracles.random_sample(chance, letters, 4, 5)
            looks = [
                k for k in range(13) if not any(is_must(letters, sample, k, word) for word in outside)
            ]
            found = learned(letters, sample, outside)
            told[looks[0] if looks else None] = True
            self.assertEqual(found, (looks[0], closure(letters, sample, looks[0])) if looks else None)
            self.assertEqual(are_apart(letters, sample, outside, 0), found is not None and found[0] == 0)
        self.assertLess({None, 0, 1, 2}, set(told))

    def test_point_153_looks_up_to_12_and_none(self):
        for many in range(14):
            sample, outside = ("a" * many, "a" * (many + 1)), ("a" * (many + 2),)
            told = (many + 1, closure("a", sample, many + 1)) if many < 12 else None
            self.assertEqual(learned("a", sample, outside), told)
        self.assertIsNone(learned("a", ("a",), ("a",)))
        self.assertEqual(learned("a", (), ("a",)), (0, ("a", (), ())))
        self.assertEqual(learned("ab", ("a",), ()), (0, closure("ab", ("a",), 0)))

    def test_point_153_large_samples_on_both_sides(self):
        words = oracles.in_order({"".join(chance.choice("ab") for _ in range(10)) for _ in range(240)})[:200]
        self.assertEqual(len(words), 200)
        found = learned("ab", words[::2], words[1::2])
        self.assertFalse(any(takes(found[1], word) for word in words[1::2]))
        self.assertEqual(learned("ab", words, ("b" * 2000,))[0], 0)

    def test_point_153_too_large_only_at_the_look_that_is_due(self):
        for many, told in ((399, None), (400, "states"), (2000, "states")):
            self.assertEqual(raised(learned, "ab", ("a" * many,), ()), told)
        # Where some word of outside is in all closures, there is no such look, and None is returned.
        self.assertIsNone(learned("ab", ("a" * 2000,), ("a" * 2000,)))
        # At the look 0 the closure has one state, at the look 1 it has many.
        sample = ("", "a", "a" * 500)
        self.assertEqual(learned("a", sample, ()), (0, ALL_A))
        self.assertEqual(raised(closure, "a", sample, 1), "states")
        self.assertEqual(raised(learned, "a", sample, ("aa",)), "states")
        self.assertIsNone(learned("a", sample, ("a",)))

    def test_point_156_words_added_to_either_side(self):
        for _ in range(150):
            sample, outside = oracles.random_sample(chance, "ab", 4, 5), oracles.random_sample(chance, "ab", 3, 5)
            more = oracles.in_order(sample + oracles.random_sample(chance, "ab", 2, 5))
            out = oracles.in_order(outside + oracles.random_sample(chance, "ab", 2, 5))
            one, two = learned("ab", sample, outside), learned("ab", more, out)
            if two is not None:
                self.assertLessEqual(one[0], two[0])

    def test_point_156_teaching_and_learned(self):
        for machine, _ in OF_LOOK[:80]:
            k, words, word = teaching(machine)
            for _ in range(2):
                more = chance.sample(words_of(machine), min(3, len(words_of(machine))))
                sample = oracles.in_order(words + tuple(more))
                others = [other for other in few(machine) if not takes(machine, other)]
                out = oracles.in_order(
                    chance.sample(others, min(3, len(others))) + ([] if word is None else [word]),
                )
                self.assertEqual(learned(machine[0], sample, out), (k, least_of(machine)))


class Shown(unittest.TestCase):
    def plain_shown(self, machine, k, sample):
        """The words that a teacher shows, one after another, as point 154 tells it."""
        held, shown = sample, []
        while True:
            word = first_missing(machine, k, held)
            if word is None:
                return tuple(shown)
            shown.append(word)
            held = oracles.in_order(held + (word,))

    def test_point_154_words_shown(self):
        numbers = {}
        for machine, k in OF_LOOK:
            words = words_of(machine)
            sample = oracles.in_order(chance.sample(words, min(len(words), chance.randint(0, 5))))
            shown = shown_words(machine, k, sample)
            self.assertIs(type(shown), tuple)
            self.assertEqual(shown, self.plain_shown(machine, k, sample))
            self.assertEqual(shown, oracles.in_order(shown))
            numbers[len(shown)] = True
            first = first_sample(machine, k)
            self.assertLessEqual(set(shown), set(first))
            self.assertEqual(shown_words(machine, k, ()), first)
            self.assertEqual(shown == (), tells(machine, k, sample))
            self.assertEqual(
                closure(machine[0], oracles.in_order(sample + shown), k), least_of(machine),
            )
            made = closure(machine[0], sample, k)
            self.assertGreaterEqual(len(shown), telling_number(machine, k) - telling_number(made, k))
            self.assertEqual(shown_words(least_of(machine), k, sample), shown)
        self.assertLess({0, 1, 2, 3, 4}, set(numbers))

    def test_points_138_and_154_the_first_missing_word_is_in_the_first_sample(self):
        missing = {}
        for machine, k in OF_LOOK[:150]:
            first, words = first_sample(machine, k), words_of(machine)
            for many in range(5):
                sample = oracles.in_order(chance.sample(words, min(many, len(words))))
                word = first_missing(machine, k, sample)
                if word is not None:
                    self.assertIn(word, first)
                    missing[first.index(word)] = True
            held, shown = (), ()
            while first_missing(machine, k, held) is not None:
                shown += (first_missing(machine, k, held),)
                held = oracles.in_order(shown)
            self.assertEqual(shown, first)
        self.assertGreater(len(missing), 2)

    def test_point_156_the_words_of_the_language_ahead(self):
        for machine, k in OF_LOOK[:80]:
            words = words_of(machine)
            sample = oracles.in_order(chance.sample(words, min(len(words), 3)))
            told = [
                word for at, word in enumerate(words)
                if not is_must(machine[0], oracles.in_order(sample + tuple(words[:at])), k, word)
            ]
            self.assertEqual([word for word in shown_words(machine, k, sample) if word in words], told)

    def test_point_154_a_learner_is_shown_them(self):
        for machine, k in OF_LOOK[:60]:
            words = words_of(machine)
            learner, _ = given(machine[0], k, chance.sample(words, min(len(words), 3)))
            for word in shown_words(machine, k, learner.words()):
                self.assertEqual(word, first_missing(machine, k, learner.words()))
                self.assertIs(learner.add(word), True)
            self.assertEqual(learner.machine(), least_of(machine))
            self.assertIsNone(first_missing(machine, k, learner.words()))

    def test_point_156_not_always_the_fewest_that_will_do(self):
        eight = ("", "bb", "aaa", "aabab", "aabba", "abaab", "abbaa", "baaab")
        self.assertIs(tells(EVERY, 0, oracles.in_order(eight + ("ab",))), True)
        self.assertEqual(shown_words(EVERY, 0, eight), ("a", "b"))

    def test_point_154_words_of_more_than_500_letters(self):
        machine = ("ab", chain("ab", 399)[1][:398] + ((None, 398),), (398,))
        self.assertEqual(shown_words(machine, 1, ()), ("a" * 398, "a" * 398 + "b", "a" * 398 + "bb"))
        rows = tuple((row[0], 0 if at == 299 else None) for at, row in enumerate(circle("a", 300)[1]))
        shown = shown_words(("ab", rows, (0,)), 1, ())
        self.assertEqual(max(map(len, shown)), 600)
        self.assertTrue(is_sample("ab", shown))
        self.assertEqual(shown, first_sample(("ab", rows, (0,)), 1))

    def test_point_155_which_refusal_comes_first(self):
        for k in (0, 1, 5, 12):
            machine = chain("ab", k + 2, (k, k + 1))
            for sample in ((), ("b",), ("a" * k,)):
                self.assertEqual(raised(shown_words, machine, k, sample), "look")
        large = circle("a", 400, (0, 1))
        self.assertEqual(raised(shown_words, large, 12, ("aa",)), "look")
        for k in (1, 12):
            fit, large = circle("a", 400 - k), circle("a", 401 - k)
            self.assertEqual(len(looked_states(fit, k)), 400)
            self.assertEqual(raised(shown_words, large, k, ("",)), "looked")
            self.assertEqual(raised(shown_words, large, k, ("a",)), "looked")
            self.assertEqual(raised(shown_words, fit, k, ("a",)), "sample")
            self.assertEqual(raised(shown_words, fit, k, ("",)), None)
        self.assertEqual(raised(shown_words, EVERY, 8, ("a",)), "looked")
        self.assertEqual(raised(shown_words, EVERY, 7, ("a",)), "words")
        self.assertEqual(raised(shown_words, EVEN, 6, ("a",)), "sample")
        self.assertEqual(raised(shown_words, EVEN, 3, ("b",)), None)
        self.assertEqual(raised(shown_words, NONE, 6, ()), None)

    def test_point_155_200_words_shown_and_more(self):
        for many, told in ((200, None), (201, "words")):
            words = oracles.in_order(oracles.all_words("ab", 7)[:many])
            machine = word_machine(words)
            self.assertEqual(raised(shown_words, machine, 12, ()), told)
            self.assertEqual(shown_words(machine, 12, words[:1]), words[1:])
            self.assertEqual(shown_words(machine, 12, words[-1:]), words[:-1])
            self.assertEqual(shown_words(machine, 12, words[5:200]), words[:5] + words[200:])

    def test_point_155_2000_letters_shown_and_more(self):
        for many, beside, told in ((40, 49, None), (69, 28, "words")):
            rows = [
                tuple(
                    (at + 1) % many if letter == 0 or at + (letter - 1) * many < beside else None
                    for letter in range(3)
                )
                for at in range(many)
            ]
            machine = oracles.machine_of("abc", rows, {0})
            self.assertEqual(raised(shown_words, machine, 0, ()), told)
            word = "a" * many
            shown = shown_words(machine, 0, ("", word))
            self.assertEqual(sum(map(len, shown)), 2000 + (told is not None) - many)
            # Other words of the language do not spare any of these.
            self.assertEqual(raised(shown_words, machine, 0, (word * 2,)), told)

    def test_point_155_wrong_arguments(self):
        wrong = {
            "machine": oddities.MACHINES + [chain("a", 401)], "k": oddities.LOOKS, "sample": oddities.SAMPLES,
            "letters": oddities.LETTERS, "outside": oddities.SAMPLES,
        }
        for function in (first_missing, shown_words):
            for machine in (EVEN, chain("ab", 3, (1, 2))):
                oddities.check_wrong(self, function, ("machine", "k", "sample"), (machine, 0, ("b",)), wrong)
        names = ("letters", "sample", "outside")
        oddities.check_wrong(self, learned, names, ("ab", ("a",), ("b",)), wrong)
        oddities.check_wrong(self, learned, names, ("ab", ("a" * 400,), ()), wrong)

    def test_point_156_the_seen_machine_of_what_is_held(self):
        for machine, k in OF_LOOK[:40]:
            learner, _ = given(machine[0], k, first_sample(machine, k))
            self.assertEqual(
                seen_machine(machine[0], learner.words(), k), looked_machine(learner.machine(), k),
            )
            self.assertTrue(is_machine(learner.machine()))
            self.assertEqual(thinned(machine, k, learner.words()), first_sample(machine, k))
        self.assertEqual(first_missing(tree_of("ab", ("a", "b")), 0, ("a",)), "b")


def word_machine(words):
    """The tree of the words, which may be more than a sample has."""
    number = {word: at for at, word in enumerate(oracles.beginnings(words))}
    rows = [tuple(number.get(word + letter) for letter in "ab") for word in number]
    return oracles.machine_of("ab", rows, {number[word] for word in words})


if __name__ == "__main__":
    unittest.main()
