"""The desk (points 192 to 199 and 201, 203 to 206)."""

import itertools
import random
import unittest

from backseen.desk import Desk
from backseen.errors import NotPossible, TooLarge
from backseen.joining import seen_machine
from backseen.sides import accepts_verdict, are_apart, verdict, verdict_paper
from backseen.undecided import first_undecided
import oddities
import oracles

chance = random.Random(192)
VERDICTS = ("must", "must not", "open", "clash")


def raised(function, *arguments):
    try:
        function(*arguments)
    except (NotPossible, TooLarge) as error:
        return getattr(error, "why", None) or error.what
    return None


def random_command(letters, words_in, words_out, asked, most=4):
    """A command that is possible more often than not."""
    deed = chance.choice(("in", "in", "in", "out", "out", "back", "back", "ask", "ask", "raise"))
    if deed == "raise":
        return ("raise",)
    known = words_in + words_out
    if deed == "back" and known and chance.random() < 0.9:
        return "back", chance.choice(known)
    if deed in ("in", "out") and asked and chance.random() < 0.3:
        return deed, chance.choice(asked)[:12]
    return deed, "".join(chance.choice(letters) for _ in range(chance.randint(0, most)))


class Slow:
    """A desk that is told plainly: what holds and which papers are kept is worked out from the journal, each time."""

    def __init__(self, letters, k, journal=()):
        self.letters, self.k, self.journal = letters, k, journal

    def reason(self, command):
        """Why the command is not possible, as point 194 tells it."""
        words_in, words_out, asked, look = self.holds()
        deed, word = command[0], command[-1]
        reasons = [
            ("there", deed in ("in", "out") and word in words_in + words_out),
            ("missing", deed == "back" and word not in words_in + words_out),
            ("asked", deed == "ask" and word in asked),
            ("look", deed == "raise" and look == 12),
            ("many", deed == "in" and len(words_in) == 12 or deed == "out" and len(words_out) == 12
             or deed == "ask" and len(asked) == 6),
            ("full", len(self.journal) == 24),
        ]
        return next((why for why, holds in reasons if holds), None)

    def holds(self, many=None):
        words_in, words_out, asked, look = set(), set(), [], self.k
        for command in self.journal[:many]:
            if command[0] == "in":
                words_in.add(command[1])
            elif command[0] == "out":
                words_out.add(command[1])
            elif command[0] == "back":
                words_in.discard(command[1])
                words_out.discard(command[1])
            elif command[0] == "ask":
                asked.append(command[1])
            else:
                look += 1
        return oracles.in_order(words_in), oracles.in_order(words_out), tuple(asked), look

    def records(self):
        """The records, with the papers that are done anew, as point 195 tells it."""
        papers, records = {}, []
        for at, command in enumerate(self.journal):
            words_in, words_out, asked, look = self.holds(at + 1)
            fresh = []
            for number, word in enumerate(asked):
                question = self.letters, words_in, words_out, look, word
                if number not in papers or not accepts_verdict(*question, papers[number]):
                    papers[number] = verdict_paper(*question)
                    fresh.append((number, papers[number]))
            records.append((command, tuple(fresh)))
        return tuple(records), papers


def everything(desk):
    """All that a desk tells."""
    asked = desk.asked()
    return (
        desk.words(), asked, desk.look(), desk.letters(), desk.began(), desk.journal(), desk.records(),
        [desk.verdict(word) for word in asked], [desk.paper(word) for word in asked],
    )


def carried_out(letters, k, journal):
    desk = Desk(letters, k)
    for command in journal:
        desk.act(command)
    return desk


def random_desk(many, letters=None, k=None):
    """A desk with a random journal, or less where commands were not possible."""
    letters = letters or chance.choice(("a", "ab", "ab", "abc"))
    desk = Desk(letters, chance.choice((0, 0, 1, 2)) if k is None else k)
    for _ in range(many):
        command = random_command(letters, desk.words()[0], desk.words()[1], desk.asked())
        if Slow(letters, desk.began(), desk.journal()).reason(command) is None:
            desk.act(command)
    return desk


DESKS = [random_desk(16) for _ in range(60)]


class Deeds(unittest.TestCase):
    def test_points_192_to_196_by_a_plain_desk(self):
        seen = {}
        for _ in range(70):
            letters, k = chance.choice(("a", "ab", "ab", "abc")), chance.choice((0, 0, 1, 2, 11))
            desk, journal = Desk(letters, k), ()
            for _ in range(14):
                slow = Slow(letters, k, journal)
                words_in, words_out, asked, look = slow.holds()
                self.assertEqual(desk.words(), (words_in, words_out))
                self.assertEqual((desk.asked(), desk.look(), desk.journal()), (asked, look, journal))
                command = random_command(letters, words_in, words_out, asked)
                reason = slow.reason(command)
                seen[reason] = True
                if reason is not None:
                    before = everything(desk)
                    self.assertEqual(raised(desk.act, command), reason)
                    self.assertEqual(everything(desk), before)
                    continue
                journal += (command,)
                records, papers = Slow(letters, k, journal).records()
                told = desk.act(command)
                self.assertIs(type(told), tuple)
                self.assertEqual(told, tuple(desk.asked()[number] for number, _ in records[-1][1]))
                self.assertEqual(desk.records(), records)
                for number, word in enumerate(desk.asked()):
                    self.assertEqual(desk.paper(word), papers[number])
                    self.assertEqual(desk.verdict(word), papers[number][0])
                    self.assertEqual(desk.verdict(word), verdict(letters, *desk.words(), desk.look(), word))
            self.assertEqual((desk.letters(), desk.began()), (letters, k))
        self.assertLessEqual({None, "there", "missing", "asked", "look"}, set(seen))

    def test_point_192_a_new_desk(self):
        for letters in ("a", "abz", "wxyz"):
            for k in range(13):
                desk = Desk(letters, k)
                self.assertEqual(everything(desk), (((), ()), (), k, letters, k, (), (), [], []))
                self.assertIsNone(desk.undo())
                self.assertEqual(raised(desk.paper, ""), "missing")
                self.assertEqual(desk.open_word(), "")

    def test_point_193_lengths_of_words(self):
        desk = Desk("ab", 0)
        for deed in ("in", "out", "back"):
            self.assertTrue(oddities.is_refused(desk.act, ((deed, "a" * 13),), "command"))
            self.assertTrue(oddities.is_refused(desk.act, ((deed, "a" * 100),), "command"))
        self.assertTrue(oddities.is_refused(desk.act, (("ask", "a" * 101),), "command"))
        self.assertEqual(desk.journal(), ())
        self.assertEqual(desk.act(("in", "a" * 12)), ())
        self.assertEqual(desk.act(("out", "b" * 12)), ())
        self.assertEqual(desk.act(("ask", "ab" * 50)), ("ab" * 50,))
        self.assertEqual(desk.act(("ask", "a" * 13)), ("a" * 13,))
        self.assertEqual(desk.act(("back", "b" * 12)), ())
        self.assertEqual(desk.words(), (("a" * 12,), ()))
        self.assertTrue(oddities.is_refused(desk.verdict, ("a" * 101,), "word"))
        self.assertEqual(raised(desk.verdict, "a" * 100), "missing")
        self.assertEqual(desk.verdict("ab" * 50), "open")

    def test_point_193_asked_words_can_be_in_or_out_or_neither(self):
        desk = Desk("ab", 0)
        for command in (("in", "a"), ("out", "b"), ("ask", "a"), ("ask", "b"), ("ask", "ab")):
            desk.act(command)
        self.assertEqual([desk.verdict(word) for word in desk.asked()], ["must", "must not", "open"])
        desk.act(("in", "ab"))
        self.assertEqual([desk.verdict(word) for word in desk.asked()], ["must", "must not", "must"])

    def test_point_194_12_words_in_and_12_words_out(self):
        words = oracles.all_words("ab", 4)
        for deed, other in (("in", "out"), ("out", "in")):
            desk = Desk("ab", 12)
            for word in words[:12]:
                desk.act((deed, word))
            self.assertEqual(raised(desk.act, (deed, words[12])), "many")
            self.assertEqual(raised(desk.act, (deed, words[0])), "there")
            self.assertEqual(raised(desk.act, (other, words[0])), "there")
            desk.act((other, words[12]))
            self.assertEqual(raised(desk.act, (deed, words[12])), "there")
            desk.act(("back", words[3]))
            self.assertEqual(desk.act((deed, words[3])), ())
            self.assertEqual(raised(desk.act, (deed, words[20])), "many")
            self.assertEqual(len(desk.journal()), 15)
            self.assertEqual(desk.words()[0 if deed == "in" else 1], oracles.in_order(words[:12]))

    def test_point_194_6_asked_words(self):
        desk = Desk("a", 0)
        words = ["a" * many for many in (5, 1, 100, 0, 2, 3)]
        for word in words:
            self.assertEqual(desk.act(("ask", word)), (word,))
        self.assertEqual(desk.asked(), tuple(words))
        self.assertEqual(raised(desk.act, ("ask", "aaaa")), "many")
        self.assertEqual(raised(desk.act, ("ask", "aaa")), "asked")
        self.assertEqual(desk.undo(), ("ask", "aaa"))
        self.assertEqual(desk.act(("ask", "aaaa")), ("aaaa",))

    def test_point_194_the_look_12(self):
        for k in (0, 11, 12):
            desk = Desk("a", k)
            for look in range(k, 12):
                self.assertEqual(desk.look(), look)
                self.assertEqual(desk.act(("raise",)), ())
            self.assertEqual((desk.look(), desk.began()), (12, k))
            self.assertEqual(raised(desk.act, ("raise",)), "look")

    def test_point_194_24_commands(self):
        desk = Desk("ab", 0)
        for at in range(12):
            desk.act(("in", "a"))
            desk.act(("back", "a"))
        self.assertEqual(len(desk.journal()), 24)
        before = everything(desk)
        for command in (("in", "a"), ("out", "a"), ("ask", "a"), ("raise",)):
            self.assertEqual(raised(desk.act, command), "full")
        self.assertEqual(raised(desk.act, ("back", "a")), "missing")
        self.assertEqual(everything(desk), before)
        self.assertEqual(desk.undo(), ("back", "a"))
        self.assertEqual(raised(desk.act, ("in", "a")), "there")
        self.assertEqual(desk.act(("raise",)), ())
        self.assertEqual(raised(desk.act, ("back", "a")), "full")
        self.assertEqual(raised(desk.act, ("out", "a")), "there")

    def test_point_194_the_first_reason_that_applies(self):
        words = oracles.all_words("ab", 4)
        # With 24 commands, each other reason comes first.
        for journal, commands in (
            ([("in", word) for word in words[:12]] + [("out", word) for word in words[12:24]], (
                (("in", words[0]), "there"), (("out", words[0]), "there"), (("in", words[24]), "many"),
                (("out", words[24]), "many"), (("back", words[24]), "missing"), (("back", words[23]), "full"),
                (("ask", words[0]), "full"), (("raise",), "full"),
            )),
            ([("ask", word) for word in words[:6]] + [("raise",)] * 12 + [("in", "a"), ("back", "a")] * 3, (
                (("ask", words[0]), "asked"), (("ask", words[6]), "many"), (("raise",), "look"), (("in", "a"), "full"),
                (("back", "a"), "missing"),
            )),
        ):
            desk = carried_out("ab", 0, journal)
            self.assertEqual(len(desk.journal()), 24)
            for command, reason in commands:
                self.assertEqual(raised(desk.act, command), reason)
                self.assertEqual(Slow("ab", 0, desk.journal()).reason(command), reason)

    def test_points_195_and_198_papers_that_stay(self):
        stayed = {}
        for desk in DESKS:
            other = Desk(desk.letters(), desk.began())
            for command in desk.journal():
                before = {word: other.paper(word) for word in other.asked()}
                words_out = other.words()[1]
                told = other.act(command)
                for word, paper in before.items():
                    now = other.verdict(word)
                    kept = word not in told
                    if kept:
                        self.assertEqual(repr(other.paper(word)), repr(paper))
                        self.assertEqual(now, paper[0])
                    right = accepts_verdict(desk.letters(), *other.words(), other.look(), word, paper)
                    self.assertIs(kept, right)
                    if now != paper[0]:
                        self.assertFalse(kept)
                    sure = (
                        command[0] in ("in", "out") and paper[0] != "open" and now == paper[0]
                        or command[0] in ("back", "raise") and paper[0] == "open"
                        or command[0] == "back" and command[1] in words_out and paper[0] == "must"
                        or command[0] == "ask"
                    )
                    if sure:
                        self.assertTrue(kept)
                        stayed[command[0], paper[0]] = True
                self.assertEqual(told, tuple(word for word in other.asked() if word in told))
        self.assertGreater(len(stayed), 10)

    def test_point_196_the_verdict_depends_on_what_the_desk_holds_alone(self):
        for desk in DESKS:
            told = [desk.verdict(word) for word in desk.asked()]
            self.assertEqual(told, [verdict(desk.letters(), *desk.words(), desk.look(), word) for word in desk.asked()])
            self.assertIn("clash" in told, ([False] if set(told) - {"clash"} else [True, False]))
            self.assertTrue(set(told) <= {"clash"} or "clash" not in told)
            # The same things held, by other commands in another sequence.
            journal = [("in", word) for word in desk.words()[0]] + [("out", word) for word in desk.words()[1]]
            journal += [("ask", word) for word in desk.asked()] + [("raise",)] * (desk.look() - desk.began())
            chance.shuffle(journal)
            other = carried_out(desk.letters(), desk.began(), journal)
            self.assertEqual([other.verdict(word) for word in desk.asked()], told)

    def test_point_197_what_commands_can_do_to_verdicts(self):
        can = {
            "in": {("must", "must"), ("must", "clash"), ("must not", "must not"), ("must not", "clash"),
                   ("clash", "clash")} | {("open", other) for other in VERDICTS},
            "out": {("must", "must"), ("must", "clash"), ("must not", "must not"), ("must not", "clash"),
                    ("clash", "clash"), ("open", "open"), ("open", "must not"), ("open", "clash")},
            "back": {("open", "open"), ("must", "must"), ("must", "open"), ("must not", "must not"),
                     ("must not", "open")} | {("clash", other) for other in VERDICTS},
            "ask": {(one, one) for one in VERDICTS},
        }
        can["raise"] = can["back"]
        met = {}
        for desk in DESKS + [random_desk(20, "ab", 0) for _ in range(60)]:
            other = Desk(desk.letters(), desk.began())
            for command in desk.journal():
                before = {word: other.verdict(word) for word in other.asked()}
                other.act(command)
                for word, told in before.items():
                    step = told, other.verdict(word)
                    self.assertIn(step, can[command[0]])
                    met[command[0], step] = True
                    if command[0] == "in" and command[1] == word:
                        self.assertIn(step[1], ("must", "clash"))
                    if command[0] == "out" and command[1] == word:
                        self.assertIn(step[1], ("must not", "clash"))
        self.assertGreater(len(met), 22)

    def test_point_199_undoing(self):
        for desk in DESKS:
            other, pages = Desk(desk.letters(), desk.began()), []
            for command in desk.journal():
                pages.append(everything(other))
                other.act(command)
            self.assertEqual(everything(other), everything(desk))
            for command in desk.journal()[::-1]:
                if chance.random() < 0.3:
                    # What is undone leaves no trace.
                    before = everything(other)
                    more = random_command(desk.letters(), *other.words(), other.asked())
                    if raised(other.act, more) is None:
                        self.assertEqual(other.undo(), more)
                    self.assertEqual(everything(other), before)
                self.assertEqual(other.undo(), command)
                self.assertEqual(everything(other), pages.pop())
            self.assertIsNone(other.undo())
            self.assertEqual(everything(other), everything(Desk(desk.letters(), desk.began())))

    def test_point_199_undoing_brings_the_papers_back(self):
        desk = carried_out("ab", 0, (("in", "a"), ("in", "ab"), ("ask", "abb")))
        paper = desk.paper("abb")
        self.assertEqual(desk.act(("raise",)), ("abb",))
        self.assertNotEqual(desk.paper("abb"), paper)
        self.assertEqual(desk.undo(), ("raise",))
        self.assertEqual(repr(desk.paper("abb")), repr(paper))
        self.assertEqual((desk.look(), desk.verdict("abb")), (0, "must"))

    def test_point_199_twins(self):
        for desk in DESKS[:30]:
            desk = carried_out(desk.letters(), desk.began(), desk.journal())
            twin = desk.twin()
            self.assertIsInstance(twin, Desk)
            self.assertIsNot(twin, desk)
            before = everything(desk)
            self.assertEqual(everything(twin), before)
            command = random_command(desk.letters(), *desk.words(), desk.asked())
            raised(twin.act, command)
            while twin.undo() is not None:
                pass
            self.assertEqual(everything(desk), before)
            third = desk.twin().twin()
            undone = desk.undo()
            self.assertEqual(everything(third), before)
            self.assertEqual(third.undo(), undone)
            self.assertEqual(everything(third), everything(desk))

    def test_points_199_and_201_what_a_desk_returns_depends_on_its_journal_alone(self):
        for desk in DESKS:
            other = Desk(desk.letters(), desk.began())
            for command in desk.journal():
                while chance.random() < 0.4:
                    more = random_command(desk.letters(), *other.words(), other.asked())
                    if raised(other.act, more) is None:
                        other.undo()
                other.act(command)
            self.assertEqual(everything(other), everything(desk))
            self.assertEqual(tuple(command for command, _ in desk.records()), desk.journal())

    def test_point_201_a_paper_for_each_verdict_that_changes_and_each_asked_word(self):
        for desk in DESKS:
            other = Desk(desk.letters(), desk.began())
            for command, fresh in desk.records():
                before = {word: other.verdict(word) for word in other.asked()}
                other.act(command)
                numbers = [number for number, _ in fresh]
                self.assertEqual(numbers, sorted(set(numbers)))
                for number, word in enumerate(other.asked()):
                    if before.get(word) != other.verdict(word):
                        self.assertIn(number, numbers)
                for number, paper in fresh:
                    self.assertEqual(paper[0], other.verdict(other.asked()[number]))


class Open(unittest.TestCase):
    def test_point_204_the_first_undecided_word(self):
        told = {True: 0, False: 0}
        for desk in DESKS + [random_desk(10, "a", 0) for _ in range(40)]:
            words_in, words_out = desk.words()
            word = desk.open_word()
            self.assertEqual(word, first_undecided(desk.letters(), words_in, words_out, desk.look()))
            told[word is None] += 1
            if word is None:
                continue
            self.assertTrue(are_apart(desk.letters(), words_in, words_out, desk.look()))
            self.assertEqual(verdict(desk.letters(), words_in, words_out, desk.look(), word), "open")
            for deed in ("in", "out"):
                twin = desk.twin()
                if len(word) <= 12 and raised(twin.act, (deed, word)) is None:
                    self.assertTrue(are_apart(desk.letters(), *twin.words(), desk.look()))
                    self.assertNotEqual(twin.open_word(), word)
        self.assertGreater(min(told.values()), 5)

    def test_point_204_words_that_cannot_be_put_in_or_out(self):
        # The words of 0 to 5 letters are out, and the one of 12 letters is in: the first undecided one has 25.
        journal = [("in", "a" * 12)] + [("out", "a" * many) for many in range(6)]
        desk = carried_out("a", 0, journal)
        self.assertEqual(desk.open_word(), "a" * 25)
        self.assertTrue(oddities.is_refused(desk.act, (("in", "a" * 25),), "command"))
        self.assertEqual(desk.act(("ask", "a" * 25)), ("a" * 25,))
        self.assertEqual(desk.verdict("a" * 25), "open")

    def test_point_204_40_states_and_more(self):
        for more, told in ((0, None), (1, "cases")):
            journal = [("in", word) for word in ("a" * 12, "b" * 12, "ab" * 6)] + [("in", "ba" + "b" * (3 + more))]
            desk = carried_out("ab", 12, journal)
            self.assertEqual(len(seen_machine("ab", desk.words()[0], 12)[1]), 40 + more)
            self.assertEqual(raised(desk.open_word), told)
            # Whatever words are out, and be the sides apart or not.
            desk.act(("out", "b"))
            self.assertEqual(raised(desk.open_word), told)
        desk = carried_out("ab", 0, [("in", "a" * 12), ("out", "")])
        self.assertEqual(raised(desk.open_word), None)

    def test_point_204_sides_that_are_not_apart(self):
        desk = carried_out("a", 0, (("in", ""), ("in", "a"), ("out", "aa")))
        self.assertIsNone(desk.open_word())
        self.assertIsNone(carried_out("ab", 0, [("in", word) for word in ("", "a", "b")]).open_word())


class Wrong(unittest.TestCase):
    def test_point_203_wrong_letters_and_looks(self):
        wrong = {"letters": oddities.LETTERS, "k": oddities.LOOKS}
        oddities.check_wrong(self, Desk, ("letters", "k"), ("ab", 0), wrong)

    def test_points_193_and_203_commands_of_any_kind(self):
        desk = carried_out("ab", 0, (("in", "a"), ("ask", "b"), ("out", "bb")))
        before = everything(desk)
        commands = oddities.oddities() + [
            None, "", "raise", "in", ("in",), ("out",), ("back",), ("ask",), ("raise", ""), ("raise", "a"),
            ("raise", None),
            ("in", "c"), ("in", "A"), ("in", None), ("in", 0), ("in", ("a",)), ("in", "a", "a"), ("In", "a"), ("", "a"),
            ("take", "a"), ("asked", "a"), ("undo",), (None, "a"), (0, "a"), (("in",), "a"), ["in", "b"], ["raise"],
            ("in", ["b"]), (), ((),), ("in", "b" * 13), ("out", "b" * 13), ("back", "b" * 13), ("ask", "b" * 101),
            ("in", b"a"), (True,), ("raise",) * 3, "in a", {"in": "a"},
        ]
        for odd in oddities.oddities():
            commands += [(deed, odd) for deed in ("in", "out", "back", "ask", "raise")] + [(odd, "b"), (odd, odd)]
        for command in commands:
            self.assertTrue(oddities.is_refused(desk.act, (command,), "command"))
        self.assertEqual(everything(desk), before)
        # A full desk refuses what is no command in the same way.
        full = carried_out("ab", 0, [("in", "a"), ("back", "a")] * 12)
        self.assertTrue(oddities.is_refused(full.act, (("in", "c"),), "command"))

    def test_point_203_wrong_words(self):
        desk = carried_out("ab", 0, (("in", "a"), ("ask", "b")))
        for call in (desk.verdict, desk.paper):
            for word in oddities.WORDS + ["a" * 101] + oddities.oddities():
                self.assertTrue(oddities.is_refused(call, (word,), "word"))
            for word in ("", "a", "bb", "a" * 100):
                self.assertEqual(raised(call, word), "missing")
        self.assertEqual(raised(desk.verdict, "b"), None)

    def test_point_2_only_commands_change_a_desk(self):
        for desk in DESKS[:20]:
            before = everything(desk)
            desk.open_word() if len(seen_machine(desk.letters(), desk.words()[0], desk.look())[1]) <= 40 else None
            desk.twin().undo()
            self.assertEqual(everything(desk), before)
            for value in (desk.words(), desk.asked(), desk.journal(), desk.records()):
                self.assertIs(type(value), tuple)

    def test_point_192_a_desk_of_12_words_in_and_12_words_out(self):
        words = ["".join("ab"[number >> at & 1] for at in range(12)) for number in range(100, 3600, 146)][:24]
        for journal in (
            [("in", word) for word in words[:12]] + [("out", word) for word in words[12:18]]
            + [("ask", "ab" * 50), ("raise",), ("ask", "a" * 100), ("raise",), ("back", words[0]), ("ask", words[0])],
        ):
            desk = carried_out("ab", 0, journal)
            self.assertEqual(len(desk.journal()), 24)
            for word in desk.asked():
                self.assertIs(accepts_verdict("ab", *desk.words(), desk.look(), word, desk.paper(word)), True)


class Examples(unittest.TestCase):
    def test_point_205_first_example(self):
        desk = carried_out("a", 0, (("in", ""), ("in", "aa"), ("ask", "aaa")))
        self.assertEqual(desk.verdict("aaa"), "open")
        self.assertEqual(desk.act(("out", "aaaaa")), ("aaa",))
        self.assertEqual(desk.verdict("aaa"), "must not")
        self.assertEqual(desk.act(("back", "aaaaa")), ("aaa",))
        self.assertEqual(desk.verdict("aaa"), "open")
        self.assertEqual(desk.act(("in", "a")), ("aaa",))
        self.assertEqual(desk.verdict("aaa"), "must")

    def test_point_206_second_example(self):
        desk = carried_out("ab", 0, (("in", "a"), ("in", "ab"), ("ask", "abb")))
        self.assertEqual(desk.verdict("abb"), "must")
        twin = desk.twin()
        self.assertEqual(twin.act(("raise",)), ("abb",))
        self.assertEqual(twin.verdict("abb"), "open")
        desk.act(("ask", "a"))
        desk.act(("ask", "b"))
        desk.act(("out", "abb"))
        self.assertEqual([desk.verdict(word) for word in desk.asked()], ["clash"] * 3)
        desk.act(("raise",))
        self.assertEqual(desk.verdict("abb"), "must not")
        self.assertNotIn("clash", [desk.verdict(word) for word in desk.asked()])

    def test_point_195_all_sequences_of_few_commands(self):
        commands = (("in", ""), ("in", "a"), ("out", "aa"), ("back", "a"), ("ask", "aaa"), ("raise",))
        for journal in itertools.product(commands, repeat=5):
            slow = Slow("a", 0)
            for at, command in enumerate(journal):
                slow = Slow("a", 0, journal[:at])
                if slow.reason(command) is not None:
                    break
            else:
                desk = carried_out("a", 0, journal)
                self.assertEqual(desk.records(), Slow("a", 0, journal).records()[0])


if __name__ == "__main__":
    unittest.main()
