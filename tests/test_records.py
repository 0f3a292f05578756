"""Journals, records and the fewest papers (points 199 to 203)."""

import itertools
import random
import unittest

from backseen.desk import Desk
from backseen.errors import NotPossible
from backseen.fewest import fewest_papers, fewest_records
from backseen.journals import replayed
from backseen.joining import closure
from backseen.reading import read_records
from backseen.records import are_right
from backseen.sides import accepts_verdict, verdict, verdict_paper
from backseen.wholes import closure_of
from backseen.writing import records_text
import oddities
import oracles
from test_desk import Slow, carried_out, everything, random_desk

chance = random.Random(200)
DESKS = [random_desk(18) for _ in range(40)] + [random_desk(14, "ab", 0) for _ in range(25)]
DESKS += [random_desk(14, "a", 0) for _ in range(15)]
EXAMPLE = (("in", ""), ("in", "aa"), ("ask", "aaa"), ("out", "aaaaa"))
AAA = carried_out("a", 0, EXAMPLE)


def raised(function, *arguments):
    try:
        function(*arguments)
    except NotPossible as error:
        return error.why
    return None


def moments(desk):
    """What the desk holds behind each command of its journal."""
    slow = Slow(desk.letters(), desk.began(), desk.journal())
    return [slow.holds(at + 1) for at in range(len(desk.journal()))]


def plain_right(letters, k, records):
    """Whether records of the right form are right, told plainly."""
    papers, journal = {}, ()
    for command, fresh in records:
        if Slow(letters, k, journal).reason(command) is not None:
            return False
        journal += (command,)
        words_in, words_out, asked, look = Slow(letters, k, journal).holds()
        numbers = [number for number, _ in fresh]
        if numbers != sorted(set(numbers)) or any(number >= len(asked) for number in numbers):
            return False
        papers.update(fresh)
        for number, word in enumerate(asked):
            if number not in papers or not accepts_verdict(letters, words_in, words_out, look, word, papers[number]):
                return False
    return True


def with_all_papers(desk):
    """The records of the desk, with each paper brought at each moment."""
    records = []
    for command, (words_in, words_out, asked, look) in zip(desk.journal(), moments(desk)):
        fresh = tuple(
            (number, verdict_paper(desk.letters(), words_in, words_out, look, word)) for number,
            word in enumerate(asked)
        )
        records.append((command, fresh))
    return tuple(records)


class Replayed(unittest.TestCase):
    def test_point_199_replayed_desks(self):
        for desk in DESKS:
            desk, other = desk.twin(), replayed(desk.letters(), desk.began(), desk.journal())
            self.assertIsInstance(other, Desk)
            self.assertEqual(everything(other), everything(desk))
            self.assertEqual(other.undo(), desk.undo())
            self.assertEqual(everything(other), everything(desk))
        self.assertEqual(everything(replayed("ab", 3, ())), everything(Desk("ab", 3)))

    def test_point_203_the_first_command_that_is_not_possible(self):
        words = oracles.all_words("ab", 4)
        for journal, reason in (
            ((("back", "a"),), "missing"), ((("in", "a"), ("out", "a")), "there"),
            ((("ask", "a"), ("ask", "a")), "asked"), ((("raise",),) * 13, "look"),
            (tuple(("in", word) for word in words[:13]), "many"), (tuple(("out", word) for word in words[:13]), "many"),
            (tuple(("ask", word) for word in words[:7]), "many"),
            ((("ask", "a"), ("ask", "a"), ("back", "b")), "asked"),
            ((("ask", "a"), ("back", "b"), ("ask", "a")), "missing"),
            ((("raise",),) * 12 + (("in", "a"), ("raise",), ("in", "a")), "look"),
        ):
            for function in (replayed, fewest_papers, fewest_records):
                self.assertEqual(raised(function, "ab", 0, journal), reason)
            self.assertEqual(raised(replayed, "ab", 0, journal[:1]), None if len(journal) > 1 else reason)
        for function in (replayed, fewest_papers, fewest_records):
            self.assertEqual(raised(function, "ab", 12, (("raise",),)), "look")
            self.assertEqual(raised(function, "ab", 11, (("raise",),)), None)
            self.assertEqual(raised(function, "ab", 11, (("raise",),) * 2), "look")

    def test_point_203_journals_of_24_commands_and_more(self):
        journal = (("in", "a"), ("back", "a")) * 12
        self.assertEqual(replayed("ab", 0, journal).journal(), journal)
        self.assertEqual(fewest_papers("ab", 0, journal), ())
        self.assertEqual(fewest_records("ab", 0, journal), tuple((command, ()) for command in journal))
        for function in (replayed, fewest_papers, fewest_records):
            self.assertTrue(oddities.is_refused(function, ("ab", 0, journal + (("raise",),)), "journal"))
            self.assertTrue(oddities.is_refused(function, ("ab", 0, (("back", "a"),) * 25), "journal"))

    def test_point_203_wrong_arguments(self):
        journals = [
            None, "", 0, ("raise",), [("raise",)], (("raise",), None), (("in", "c"),), (("in", "a" * 13),), (("in",),),
            (("ask", "a" * 101),), (["in", "a"],), (("undo",),), (("raise",),) * 25, (("in", "a"), ("out", "b", "b")),
            # A command that is not possible stands ahead of what is no command.
            (("back", "a"), ("in", "c")),
        ]
        journals += [(odd,) for odd in oddities.oddities()] + [(("in", odd),) for odd in oddities.oddities()]
        wrong = {"letters": oddities.LETTERS, "k": oddities.LOOKS, "journal": journals}
        for function in (replayed, fewest_papers, fewest_records):
            oddities.check_wrong(self, function, ("letters", "k", "journal"), ("ab", 0, (("in", "a"),)), wrong)
            oddities.check_wrong(self, function, ("letters", "k", "journal"), ("ab", 12, (("raise",),)), wrong)


class Right(unittest.TestCase):
    def test_points_200_and_201_the_records_of_a_desk_and_the_first_ones_of_them(self):
        for desk in DESKS:
            records = desk.records()
            for many in range(len(records) + 1):
                self.assertIs(are_right(desk.letters(), desk.began(), records[:many]), True)
        self.assertIs(are_right("ab", 0, ()), True)

    def test_point_187_records_are_read_back_and_lead_to_the_same_desk(self):
        for desk in DESKS:
            text = records_text(desk.letters(), desk.began(), desk.records())
            letters, k, records = read_records(text)
            self.assertEqual((letters, k, records), (desk.letters(), desk.began(), desk.records()))
            self.assertIs(are_right(letters, k, records), True)
            other = replayed(letters, k, tuple(command for command, _ in records))
            self.assertEqual(everything(other), everything(desk))

    def test_point_200_papers_that_need_not_be_brought(self):
        for desk in DESKS:
            self.assertIs(are_right(desk.letters(), desk.began(), with_all_papers(desk)), True)

    def test_point_200_papers_made_by_others(self):
        made = 0
        for desk in DESKS:
            letters, records = desk.letters(), []
            for (command, fresh), (words_in, words_out, asked, look) in zip(desk.records(), moments(desk)):
                others = []
                for number, paper in fresh:
                    if paper[0] == "open":
                        more = oracles.in_order(words_in + (asked[number],))
                        paper = ("open",) + tuple(
                            closure_of(closure(letters, words, look), min(12, look + 2)) for words in (more, words_in)
                        )
                    else:
                        rows = paper[-2] + paper[-2]
                        paper = paper[:-2] + (rows, paper[-1])
                    made += 1
                    others.append((number, paper))
                records.append((command, tuple(others)))
            self.assertIs(are_right(letters, desk.began(), tuple(records)), True)
        self.assertGreater(made, 100)

    def test_point_200_other_letters_and_other_looks(self):
        told = {True: 0, False: 0}
        for desk in DESKS:
            for k in range(4):
                good = plain_right(desk.letters(), k, desk.records())
                told[good] += 1
                self.assertIs(are_right(desk.letters(), k, desk.records()), good)
        self.assertGreater(min(told.values()), 30)
        self.assertIs(are_right("ab", 0, AAA.records()), False)
        self.assertIs(are_right("a", 0, AAA.records()), True)
        self.assertIs(are_right("b", 0, AAA.records()), False)

    def test_point_200_records_with_one_thing_changed(self):
        told = {True: 0, False: 0}
        for desk in DESKS[:45]:
            letters, k, records = desk.letters(), desk.began(), desk.records()
            papers = [paper for _, fresh in records for _, paper in fresh]
            changed = []
            for at, (command, fresh) in enumerate(records):
                ahead, behind = records[:at], records[at + 1:]
                changed += [ahead + behind, ahead + records[at:at + 1] * 2 + behind]
                changed.append(ahead + behind[:1] + records[at:at + 1] + behind[1:])
                deeds = [("raise",), ("in", "a"), ("out", "a"), ("ask", "a"), ("back", "a")] + [command[:-1] + ("aa",)]
                changed += [ahead + ((deed, fresh),) + behind for deed in deeds if len(deed) > 1 or deed == ("raise",)]
                for place, (number, paper) in enumerate(fresh):
                    items = [fresh[:place] + fresh[place + 1:]]
                    items.append(fresh[:place] + fresh[place:place + 1] * 2 + fresh[place + 1:])
                    items += [fresh[:place] + ((other, paper),) + fresh[place + 1:] for other in range(-1, 7)]
                    items += [
                        fresh[:place] + ((number, other),) + fresh[place + 1:] for other in chance.sample(papers, 1)
                    ]
                    items.append(fresh[::-1])
                    changed += [ahead + ((command, item),) + behind for item in items]
            for other in chance.sample(changed, min(25, len(changed))):
                if not all(0 <= number for _, fresh in other for number, _ in fresh):
                    self.assertIs(are_right(letters, k, other), False)
                elif all(command[0] == "raise" or len(command) == 2 for command, _ in other):
                    good = plain_right(letters, k, other)
                    told[good] += 1
                    self.assertIs(are_right(letters, k, other), good)
        self.assertGreater(min(told.values()), 50)

    def test_point_200_numbers(self):
        desk = carried_out("a", 0, (("ask", "a"), ("ask", "aa")))
        records = desk.records()
        one, two = records[0][1][0][1], records[1][1][0][1]
        for fresh, good in (
            (((1, two),), True), (((0, one), (1, two)), True), (((1, two), (0, one)), False),
            (((1, two), (1, two)), False),
            (((0, one),), False), ((), False), (((1, two), (2, two)), False), (((True, two),), False),
            (((1.0, two),), False),
            (((-1, two), (1, two)), False), (((1, one),), False), (((0, two), (1, two)), False), ([(1, two)], False),
            (([1, two],), False), (((1, two, two),), False), (((1,),), False), (two, False),
            (((0, one), (0, one), (1, two)), False),
            (((False, one), (1, two)), False), ((("1", two),), False), (((10 ** 30, two),), False),
        ):
            self.assertIs(are_right("a", 0, (records[0], (("ask", "aa"), fresh))), good, fresh)
        # The number of a word that is asked later.
        self.assertIs(are_right("a", 0, ((("ask", "a"), ((0, one), (1, two))), (("ask", "aa"), ()))), False)
        self.assertIs(are_right("a", 0, ((("raise",), ((0, one),)), (("ask", "a"), ()))), False)

    def test_point_200_24_records_and_more(self):
        one = ((("in", "a"), ()), (("back", "a"), ()))
        self.assertIs(are_right("ab", 0, one * 12), True)
        self.assertIs(are_right("ab", 0, one * 12 + ((("raise",), ()),)), False)
        self.assertIs(are_right("ab", 0, one * 11 + ((("raise",), ()),) * 2), True)
        self.assertIs(are_right("ab", 0, one * 13), False)
        self.assertIs(are_right("ab", 11, ((("raise",), ()),)), True)
        self.assertIs(are_right("ab", 11, ((("raise",), ()),) * 2), False)
        self.assertIs(are_right("ab", 0, ((("back", "a"), ()),)), False)
        self.assertIs(are_right("ab", 0, ((("in", "a"), ()), (("out", "a"), ()))), False)
        self.assertIs(are_right("ab", 0, ((("in", "a" * 13), ()),)), False)
        self.assertIs(are_right("ab", 0, ((("in", "a" * 12), ()),)), True)

    def test_points_200_and_203_values_of_any_kind(self):
        ask = ("ask", "aaa")
        for odd in oddities.oddities() + [None, 0, "raise", (("raise",),), ((),), ((), ())]:
            for value in (
                odd, (odd,), (odd, odd), ((odd, ()),), ((("raise",), odd),), ((("raise",), (odd,)),), ((odd, odd),),
                ((("in", odd), ()),), ((("raise", odd), ()),), ((ask, ((0, odd),)),), ((ask, ((odd, odd),)),),
                ((ask, ((odd, ("open", oddities.NONE, oddities.NONE)),)),), [odd], ((("raise",), ()), odd),
                ((("raise",), (), odd),), ([("raise",), ()],),
            ):
                self.assertIs(are_right("a", 0, value), False)
        right = AAA.records()
        for odd in oddities.oddities():
            self.assertIs(are_right("a", 0, right[:3] + ((right[3][0], ((0, odd),)),)), False)
            self.assertIs(are_right("a", 0, right[:2] + (odd,) + right[3:]), False)
        self.assertIs(are_right("a", 0, list(right)), False)
        self.assertIs(are_right("a", 0, tuple(list(record) for record in right)), False)

    def test_point_203_wrong_arguments(self):
        wrong = {"letters": oddities.LETTERS, "k": oddities.LOOKS}
        for value in (None, (), AAA.records()):
            oddities.check_wrong(self, lambda *rest: are_right(*rest, value), ("letters", "k"), ("a", 0), wrong)

    def test_point_201_what_right_records_bring(self):
        for desk in DESKS:
            letters, k = desk.letters(), desk.began()
            for records in (with_all_papers(desk), fewest_records(letters, k, desk.journal()), desk.records()):
                verdicts = {}
                for (_, fresh), (words_in, words_out, asked, look) in zip(records, moments(desk)):
                    numbers = dict(fresh)
                    for number, word in enumerate(asked):
                        told = verdict(letters, words_in, words_out, look, word)
                        if verdicts.get(number) != told:
                            self.assertIn(number, numbers)
                        if number in numbers:
                            self.assertEqual(numbers[number][0], told)
                        verdicts[number] = told


class Fewest(unittest.TestCase):
    def accepted(self, letters, moment, word, paper):
        words_in, words_out, _, look = moment
        return accepts_verdict(letters, words_in, words_out, look, word, paper)

    def one_paper(self, letters, stretch, word):
        """A paper that is accepted at all moments of the stretch, or None: the best one of its verdict is tried."""
        told = {verdict(letters, words_in, words_out, look, word) for words_in, words_out, _, look in stretch}
        if len(told) > 1:
            return None
        inside, outside = [set(moment[0]) for moment in stretch], [set(moment[1]) for moment in stretch]
        if told == {"open"}:
            words = oracles.in_order(set.union(*inside))
            look = stretch[0][3]
            paper = ("open", closure(letters, oracles.in_order(words + (word,)), look), closure(letters, words, look))
        else:
            words_in, words_out = (oracles.in_order(set.intersection(*side)) for side in (inside, outside))
            paper = verdict_paper(letters, words_in, words_out, stretch[-1][3], word)
        good = all(self.accepted(letters, moment, word, paper) for moment in stretch)
        return paper if good else None

    def plain_fewest(self, desk):
        """The least numbers, by all ways to part the moments of each word."""
        letters, told = desk.letters(), []
        for word in desk.asked():
            stretch = [moment for moment in moments(desk) if word in moment[2]]
            least = [0] + [None] * len(stretch)
            for end in range(1, len(stretch) + 1):
                least[end] = 1 + min(
                    least[start] for start in range(end)
                    if self.one_paper(letters, stretch[start:end], word) is not None
                )
            told.append(least[-1])
        return tuple(told)

    def test_point_202_the_least_numbers(self):
        numbers, fewer = {}, 0
        for desk in DESKS:
            letters, k, journal = desk.letters(), desk.began(), desk.journal()
            found = fewest_papers(letters, k, journal)
            self.assertIs(type(found), tuple)
            self.assertEqual(found, self.plain_fewest(desk))
            records = fewest_records(letters, k, journal)
            self.assertEqual(tuple(command for command, _ in records), journal)
            self.assertIs(are_right(letters, k, records), True)
            self.assertEqual(self.brought(records, len(found)), found)
            mine = self.brought(desk.records(), len(found))
            for most, least in zip(mine, found):
                self.assertGreaterEqual(most, least)
                fewer += most > least
                numbers[least] = True
        self.assertGreater(fewer, 5)
        self.assertGreaterEqual(len(numbers), 4)

    def brought(self, records, many):
        told = [number for _, fresh in records for number, _ in fresh]
        return tuple(told.count(number) for number in range(many))

    def test_point_202_no_records_bring_fewer(self):
        # All records with the same commands that leave papers out of those which bring each paper at each moment.
        for journal in (
            EXAMPLE, EXAMPLE + (("back", "aaaaa"), ("raise",)), (("ask", "a"), ("in", "a"), ("raise",), ("in", "")),
        ):
            desk = carried_out("a", 0, journal)
            pool = [
                {0: verdict_paper("a", words_in, words_out, look, asked[0])} if asked else {}
                for words_in, words_out, asked, look in moments(desk)
            ]
            least = None
            for many in itertools.product((False, True), repeat=len(journal)):
                records = tuple(
                    (command, tuple(papers.items()) if brings else ())
                    for command, papers, brings in zip(journal, pool, many)
                )
                if are_right("a", 0, records):
                    number = self.brought(records, 1)[0]
                    least = number if least is None else min(least, number)
            self.assertGreaterEqual(least, fewest_papers("a", 0, journal)[0])

    def test_point_202_papers_that_last_longer_than_those_of_a_desk(self):
        # Open at the look 0, whatever words come in one after another: one paper for all of them will do.
        journal = (("ask", "b"),) + tuple(("in", "a" * many) for many in (3, 5, 1, 2))
        self.assertGreater(self.brought(carried_out("ab", 0, journal).records(), 1), (2,))
        self.assertEqual(fewest_papers("ab", 0, journal), (1,))
        records = fewest_records("ab", 0, journal)
        self.assertEqual([len(fresh) for _, fresh in records], [1, 0, 0, 0, 0])
        self.assertIs(are_right("ab", 0, records), True)

    def test_point_202_more_than_12_words_at_several_moments_together(self):
        words = ["a" * 4 + word for word in oracles.all_words("ab", 4)[:23]]
        for deed, number in (("in", 0), ("out", 1)):
            journal = [("ask", "b" * 5)] + [(deed, word) for word in words[:6]]
            for word, other in zip(words[6:14], words):
                journal += [("back", other), (deed, word)]
            journal = tuple(journal)
            desk = replayed("ab", 12, journal)
            self.assertEqual(len(journal), 23)
            self.assertEqual(len(desk.words()[number]), 6)
            together = set().union(*(moment[number] for moment in moments(desk)))
            self.assertEqual(len(together), 14)
            self.assertEqual(fewest_papers("ab", 12, journal), (1,))
            records = fewest_records("ab", 12, journal)
            self.assertIs(are_right("ab", 12, records), True)
            self.assertEqual(sum(len(fresh) for _, fresh in records), 1)
        # As many long words as there can be in one journal.
        words = ["".join("ab"[number >> at & 1] for at in range(12)) for number in range(100, 3600, 146)]
        journal = (("ask", "ab" * 50),) + tuple(
            command for one, two in zip(words[:11], words[11:]) for command in (("in", one), ("in", two))
        )[:12] + tuple(("back", word) for word in words[:6]) + tuple(("in", word) for word in words[6:11])
        records = fewest_records("ab", 12, journal)
        self.assertEqual(len(journal), 24)
        self.assertEqual(fewest_papers("ab", 12, journal), (1,))
        self.assertIs(are_right("ab", 12, records), True)

    def test_point_202_the_look_at_the_first_and_at_the_last_moment(self):
        # "must" lasts to the last look at which it holds, "open" begins there.
        journal = (("in", "aab"), ("in", "ab"), ("ask", "b")) + (("raise",),) * 3
        self.assertEqual(fewest_papers("ab", 0, journal), (2,))
        told = [paper[0] for _, fresh in fewest_records("ab", 0, journal) for _, paper in fresh]
        self.assertEqual(told, ["must", "open"])
        for k in range(3):
            records = fewest_records("ab", k, journal)
            self.assertIs(are_right("ab", k, records), True)
            self.assertEqual(self.brought(records, 1), fewest_papers("ab", k, journal))

    def test_point_202_clashes(self):
        # The clash of the first moments is no clash at the last ones, though there is one at each.
        journal = (("in", ""), ("in", "a"), ("out", "aa"), ("ask", "b"))
        journal += (("in", "b"), ("out", "bb"), ("back", "aa"), ("back", "a"))
        desk = carried_out("ab", 0, journal)
        self.assertEqual(desk.verdict("b"), "clash")
        self.assertEqual(fewest_papers("ab", 0, journal), (2,))
        self.assertEqual(fewest_papers("ab", 0, journal), self.plain_fewest(desk))
        self.assertIs(are_right("ab", 0, fewest_records("ab", 0, journal)), True)

    def test_point_202_without_asked_words(self):
        for journal in ((), (("raise",),), (("in", "a"), ("out", "b"))):
            self.assertEqual(fewest_papers("ab", 0, journal), ())
            self.assertEqual(fewest_records("ab", 0, journal), tuple((command, ()) for command in journal))
        self.assertEqual(fewest_papers("ab", 0, (("ask", "a"),)), (1,))

    def test_point_202_each_word_by_itself(self):
        for desk in DESKS[:25]:
            for number, word in enumerate(desk.asked()):
                journal = tuple(
                    command for command in desk.journal() if command[0] != "ask" or command[1] == word
                )
                self.assertEqual(
                    fewest_papers(desk.letters(), desk.began(), journal),
                    fewest_papers(desk.letters(), desk.began(), desk.journal())[number:number + 1],
                )

    def test_point_205_example(self):
        desk = AAA
        self.assertIs(are_right("a", 0, desk.records()), True)
        self.assertIs(are_right("a", 0, desk.records()[:3] + ((("out", "aaaaa"), ()),)), False)
        self.assertEqual(fewest_papers("a", 0, desk.journal()), (2,))
        self.assertEqual(fewest_papers("a", 0, desk.journal() + (("back", "aaaaa"), ("raise",))), (3,))


if __name__ == "__main__":
    unittest.main()
