"""Closures of whole languages and of two together, and evidence about them (points 75 to 81 and 84)."""

import itertools
import random
import unittest

from backseen.building import union_of
from backseen.comparing import common, outside_word, telling_word
from backseen.errors import TooLarge
from backseen.joining import closure, is_must, seen_machine
from backseen.looked import looked_machine, looked_states
from backseen.looking import has_property, is_of_look
from backseen.machines import is_least, is_machine, least_of, takes, tree_of
from backseen.wholes import (
    accepts_whole, accepts_whole_joins, closure_of, first_added, together, whole_classes, whole_joins, whole_paper,
)
import oddities
import oracles
from oddities import EVEN, EVERY, NONE, chain, circle

MACHINES = oracles.random_machines(75, 40, "ab", 4) + oracles.random_machines(76, 10, "abc", 3) + [NONE]
ONES = [(machine,) for machine in MACHINES]
chance = random.Random(77)
AB = [machine for machine in MACHINES if machine[0] == "ab"] + [EVEN, EVERY]
TWOS = [(chance.choice(AB), chance.choice(AB)) for _ in range(60)] + [(NONE, EVEN), (EVEN, NONE), (NONE, NONE)]
TWOS += [(machine, machine) for machine in AB[:8]]
ALL = ONES + TWOS
LOOKS = (0, 1, 2)
TWO = ("ab", ((1, None), (2, None), (None, 3), (None, None)), (1, 3))


def slow(machines, k):
    return oracles.Wholes([least_of(machine) for machine in machines], k)


def has_word(machines, k, word):
    return takes(together(machines[0], machines[-1], k), word)


class Closures(unittest.TestCase):
    def test_point_76_the_classes(self):
        joined = 0
        for machines in ALL:
            for k in LOOKS:
                whole = slow(machines, k)
                classes = whole_classes(machines, k)
                self.assertIs(type(classes), tuple)
                self.assertTrue(all(type(group) is tuple and list(group) == sorted(group) for group in classes))
                self.assertEqual({frozenset(group) for group in classes}, whole.classes())
                self.assertEqual(len(classes), len({frozenset(group) for group in classes}))
                for group in classes:
                    self.assertEqual(len({whole.leads[at] for at in group}), 1)
                joined += len(classes) < len(whole.leads)
        self.assertGreater(joined, 100)

    def test_point_76_the_classes_are_the_looked_states_of_the_closure(self):
        for machines in ALL:
            for k in LOOKS:
                whole, classes = slow(machines, k), whole_classes(machines, k)
                made = together(machines[0], machines[-1], k) if len(machines) == 2 else closure_of(machines[0], k)
                letters, rows, ends = looked_machine(made, k)
                self.assertEqual(len(rows), len(classes))
                self.assertEqual(
                    ends, tuple(at for at, group in enumerate(classes) if any(item in whole.ends for item in group)),
                )
                for row, group in zip(rows, classes):
                    for letter, target in zip(letters, row):
                        led = {whole.to.get((item, letter)) for item in group} - {None}
                        if target is None:
                            self.assertEqual(led, set())
                        else:
                            self.assertTrue(led and led <= set(classes[target]))
                if classes:
                    self.assertIn(0, classes[0])

    def test_point_75_the_closure_is_least_and_the_least_language_of_the_look(self):
        small = oracles.all_machines("a", 3) + [("a", (), ())]
        pool = oracles.all_machines("ab", 2) + oracles.all_machines("ab", 1) + [NONE]
        for machines in (small, pool[::7]):
            for machine in machines:
                for k in LOOKS:
                    made = closure_of(machine, k)
                    self.assertIs(is_least(made), True)
                    self.assertIs(is_of_look(made, k), True)
                    self.assertIsNone(outside_word(machine, made))
                    for other in machines:
                        if outside_word(machine, other) is None and is_of_look(other, k):
                            self.assertIsNone(outside_word(made, other))

    def test_point_75_together_is_the_least_language_of_the_look_with_both(self):
        pool = oracles.all_machines("a", 2) + oracles.all_machines("a", 3)[::5] + [("a", (), ())]
        for one, other in itertools.product(pool, repeat=2):
            for k in LOOKS:
                made = together(one, other, k)
                self.assertIs(is_of_look(made, k) and is_least(made), True)
                self.assertEqual((outside_word(one, made), outside_word(other, made)), (None, None))
                for more in pool:
                    if outside_word(one, more) is None and outside_word(other, more) is None and is_of_look(more, k):
                        self.assertIsNone(outside_word(made, more))

    def test_point_80_the_closure_and_the_language(self):
        for machine in MACHINES:
            for k in (0, 1, 2, 3):
                made = closure_of(machine, k)
                self.assertIsNone(outside_word(machine, made))
                self.assertEqual(made == least_of(machine), is_of_look(machine, k))
                self.assertEqual(closure_of(made, k), made)
                self.assertIsNone(outside_word(closure_of(machine, k + 1), made))
                for word in oracles.all_words(machine[0], k - 1) if k else []:
                    self.assertIs(takes(made, word), takes(machine, word))

    def test_point_80_together(self):
        for one, other in TWOS:
            for k in LOOKS:
                made = together(one, other, k)
                self.assertEqual(together(other, one, k), made)
                self.assertEqual(together(closure_of(one, k), other, k), made)
                self.assertEqual(closure_of(union_of(one, other), k), made)
                self.assertEqual(together(one, one, k), closure_of(one, k))
                self.assertEqual(together(one, NONE, k), closure_of(one, k))
                self.assertEqual(together(NONE, one, k), closure_of(one, k))

    def test_point_80_samples(self):
        samples = oracles.random_samples(80, 60, "ab", 5, 5) + [()]
        for at, sample in enumerate(samples):
            other = samples[at - 1]
            for k in (0, 1, 2, 12):
                self.assertEqual(closure_of(tree_of("ab", sample), k), closure("ab", sample, k))
                both = oracles.in_order(sample + other)
                self.assertEqual(
                    together(tree_of("ab", sample), tree_of("ab", other), k), closure("ab", both, k),
                )
                self.assertEqual(looked_machine(closure("ab", sample, k), k), seen_machine("ab", sample, k))

    def test_point_80_common_parts(self):
        for one, other in TWOS:
            for k in LOOKS:
                one_made, other_made = closure_of(one, k), closure_of(other, k)
                self.assertIs(is_of_look(common(one_made, other_made), k), True)

    def test_point_81_the_first_added_word(self):
        added = 0
        for machine in MACHINES:
            for k in LOOKS:
                word = first_added(machine, k)
                self.assertEqual(word is None, is_of_look(machine, k))
                self.assertEqual(word, telling_word(closure_of(machine, k), machine))
                added += word is not None
                if word is not None:
                    self.assertFalse(takes(machine, word))
                    self.assertTrue(takes(closure_of(machine, k), word))
        self.assertGreater(added, 20)
        self.assertEqual(first_added(TWO, 0), "aabab")

    def test_point_75_equal_answers_for_machines_of_one_language(self):
        for machine in MACHINES:
            least = least_of(machine)
            for k in LOOKS:
                self.assertEqual(closure_of(machine, k), closure_of(least, k))
                self.assertEqual(whole_classes((machine,), k), whole_classes((least,), k))
                self.assertEqual(first_added(machine, k), first_added(least, k))
                self.assertEqual(together(machine, least, k), closure_of(least, k))


class Evidence(unittest.TestCase):
    def test_point_79_evidence_of_exactly_one_word(self):
        told = {"must": 0, "free": 0}
        for machines in ALL:
            for k in LOOKS:
                whole = slow(machines, k)
                for word in oracles.all_words(machines[0][0], 3):
                    paper = whole_paper(machines, k, word)
                    told[paper[0]] += 1
                    self.assertEqual(paper[0] == "must", has_word(machines, k, word))
                    self.assertIs(accepts_whole(machines, k, word, paper), True)
                    if paper[0] == "must":
                        joined = whole.joined_by(paper[1])
                        self.assertIsNotNone(joined)
                        self.assertTrue(whole.is_way(joined, word, paper[2]))
                        empty = [machine for machine in machines if machine[1] == ()]
                        least_rows = 2 if len(machines) == 2 and not empty else 1
                        self.assertLessEqual(len(paper[1]), len(whole.leads) - least_rows)
                    else:
                        self.assertTrue(is_machine(paper[1]) and has_property(paper[1], k))
                        self.assertFalse(takes(paper[1], word))
                        self.assertTrue(all(outside_word(machine, paper[1]) is None for machine in machines))
        self.assertGreater(min(told.values()), 500)

    def test_point_79_papers_of_the_joins(self):
        rows_seen = 0
        for machines in ALL:
            for k in LOOKS:
                whole, rows = slow(machines, k), whole_joins(machines, k)
                self.assertIs(type(rows), tuple)
                self.assertIs(accepts_whole_joins(machines, k, rows), True)
                joined = list(whole.starts)
                for row in rows:
                    good, (s, t) = whole.is_good(joined, row)
                    self.assertTrue(good)
                    self.assertFalse(s == t or any(s in group and t in group for group in joined))
                    joined = oracles.join(joined, s, t)
                self.assertEqual(whole.with_single(joined), whole.classes())
                rows_seen += len(rows)
                for at in range(len(rows)):
                    self.assertIs(accepts_whole_joins(machines, k, rows[:at] + rows[at + 1:]), False)
        self.assertGreater(rows_seen, 300)

    def test_point_77_which_rows_are_good(self):
        for machines in ONES[:12] + TWOS[:12]:
            for k in (0, 1):
                whole, paper = slow(machines, k), whole_joins(machines, k)
                if len(whole.leads) > 10:
                    continue
                for at in {0, len(paper) // 2, len(paper)}:
                    start = whole.joined_by(paper[:at])
                    for row in whole.all_rows():
                        good, _ = whole.is_good(start, row)
                        self.assertIs(accepts_whole_joins(machines, k, paper[:at] + (row,) + paper[at:]), good, row)

    def test_point_77_rows_in_another_sequence(self):
        told = {True: 0, False: 0}
        for machines in ALL:
            for k in (0, 1):
                whole, rows = slow(machines, k), list(whole_joins(machines, k))
                for _ in range(3):
                    chance.shuffle(rows)
                    good = whole.joined_by(rows) is not None
                    told[good] += len(rows) > 1
                    self.assertIs(accepts_whole_joins(machines, k, tuple(rows)), good)
        self.assertGreater(min(told.values()), 20)

    def test_point_77_ways_by_other_members(self):
        for machines in ((TWO,), (circle("a", 2, (0,)), circle("a", 3, (0,))), (circle("a", 4, (1, 3)), chain("a", 2))):
            for k in (0, 1):
                whole = slow(machines, k)
                for rows in (whole_joins(machines, k), ()):
                    joined = whole.joined_by(rows)
                    for word in oracles.all_words(machines[0][0], 2):
                        for way in itertools.product(whole.numbers, repeat=len(word) + 1):
                            told = whole.is_way(joined, word, way)
                            self.assertIs(accepts_whole(machines, k, word, ("must", rows, way)), told, (word, way))

    def test_point_77_evidence_with_one_item_changed(self):
        told = {True: 0, False: 0}
        for machines in ALL:
            for k in (0, 1):
                whole = slow(machines, k)
                for word in oracles.all_words(machines[0][0], 3):
                    if not has_word(machines, k, word):
                        continue
                    _, rows, way = whole_paper(machines, k, word)
                    rows, way = list(rows), list(way)
                    kind = chance.randrange(4) if rows else 3
                    if kind == 0:
                        del rows[chance.randrange(len(rows))]
                    elif kind < 3:
                        at = chance.randrange(len(rows))
                        row = list(rows[at])
                        item = chance.randrange(len(row))
                        row[item] = chance.choice(
                            (("on", "back", "ends"), whole.numbers, whole.numbers, whole.letters)[item],
                        )
                        if (row[0] == "ends") != (len(row) == 3):
                            continue
                        rows[at] = tuple(row)
                    else:
                        way[chance.randrange(len(way))] = chance.choice(whole.numbers)
                    joined = whole.joined_by(rows)
                    good = joined is not None and whole.is_way(joined, word, way)
                    told[good] += 1
                    value = ("must", tuple(rows), tuple(way))
                    self.assertIs(accepts_whole(machines, k, word, value), good, (machines, k, word, value))
                    self.assertIs(accepts_whole(machines, k, word + "a", value), False)
        self.assertGreater(min(told.values()), 50)

    def test_point_77_superfluous_rows_up_to_2500(self):
        rows = (("ends", 1, 3),)
        way = (0, 1, 2, 1, 2, 3)
        more = (("on", 0, 0, "a"), ("ends", 1, 1), ("back", 2, 2, "b"), ("ends", 3, 1), ("on", 1, 1, "a"))
        self.assertIs(accepts_whole((TWO,), 0, "aabab", ("must", more + rows + more, way)), True)
        for many, told in ((2499, True), (2500, True), (2501, False)):
            value = rows + (("on", 0, 0, "a"),) * (many - 1)
            self.assertIs(accepts_whole((TWO,), 0, "aabab", ("must", value, way)), told)
            self.assertIs(accepts_whole_joins((TWO,), 0, value), told)
            self.assertIs(accepts_whole_joins((TWO,), 1, (("on", 0, 0, "a"),) * many), told)

    def test_point_77_rows_with_one_word_or_number_changed(self):
        way = (0, 1, 2, 1, 2, 3)

        def judge(*rows):
            return accepts_whole((TWO,), 0, "aabab", ("must", rows, way))

        good = ("ends", 1, 3)
        self.assertIs(judge(good), True)
        for row in (
            ("ends", 1, 2), ("ends", 0, 3), ("ends", 1, 4), ("ends", -1, 3), ("ends", True, 3), ("ends", 1), ("ends",),
            ("ends", 1, 3, "a"), ("ends", 1, 3, None), ("Ends", 1, 3), ("on", 1, 3), ("back", 1, 3), ["ends", 1, 3],
            ("on", 0, 0, "c"), ("on", 0, 0, ""), ("on", 0, 0, "aa"), ("on", 0, 0, 0), ("on", 0, 0, "b"),
            ("on", 0, 2, "a"),
            ("back", 0, 1, "a"), ("back", 3, 3, "a"), ("starts", 0, 0), ("starts", 0, 0, "a"), ("on", 4, 4, "a"), (),
            ("on", 0, 0, "a", "a"), ("back", 2, 2, "b", ()), ("ends", 1, 3, "a", "a"),
            ("on", 0, False, "a"), ("on", 0.0, 0, "a"), ("on", "0", 0, "a"), ("ends", None, 3), (None, 1, 3),
        ):
            self.assertIs(judge(good, row), False, row)
            self.assertIs(judge(row, good), False, row)
        self.assertIs(judge(), False)
        for value in (
            ("must", (good,), list(way)), ("must", [good], way), ["must", (good,), way], ("must", (good,), way, ()),
            ("must", (good,)), ("free", (good,), way), ("must", (good,), way[1:]), ("must", (good,), way + (3,)),
            ("Must", (good,), way), (None, (good,), way), ("must", (good,), (False,) + way[1:]), ("must",), (),
        ):
            self.assertIs(accepts_whole((TWO,), 0, "aabab", value), False)
        for at in range(6):
            for number in (-1, 0, 1, 2, 3, 4, 10 ** 30, None, "", True):
                told = accepts_whole((TWO,), 0, "aabab", ("must", (good,), way[:at] + (number,) + way[at + 1:]))
                # The states 1 and 3 are joined, and both are ends.
                self.assertIs(told, number is not True and (number == way[at] or (at, number) == (5, 1)), (at, number))

    def test_point_77_numbers_of_the_second_machine_are_increased(self):
        one, other = chain("ab", 2, (1,)), ("ab", ((None, 1), (None, None)), (1,))
        rows = (("ends", 1, 3), ("back", 0, 2, "a"), ("on", 0, 2, "b"))
        self.assertEqual(whole_classes((one, other), 0), ((0, 2), (1, 3)))
        self.assertIs(accepts_whole((one, other), 0, "b", ("must", (), (2, 3))), True)
        self.assertIs(accepts_whole((one, other), 0, "b", ("must", (), (0, 3))), False)
        self.assertIs(accepts_whole((one, other), 0, "b", ("must", rows[:1], (2, 1))), True)
        self.assertIs(accepts_whole((one, other), 0, "b", ("must", (), (2, 1))), False)
        # The starts are joined without any row, and so a word of the second language needs none.
        self.assertEqual(whole_joins((one, other), 0), (("ends", 1, 3),))
        self.assertIs(accepts_whole_joins((one, other), 0, ()), False)
        self.assertIs(accepts_whole_joins((one, other), 1, ()), True)
        self.assertIs(accepts_whole_joins((one, other), 0, rows[:1]), True)
        self.assertIs(accepts_whole_joins((one, other), 0, rows), False)
        self.assertIs(accepts_whole_joins((one, one), 1, (("on", 0, 2, "a"),)), True)
        self.assertIs(accepts_whole_joins((one, one), 1, ()), False)
        self.assertEqual(whole_classes((one, one), 1), ((0, 2), (1, 3)))

    def test_point_79_machines_by_whomever(self):
        def judge(machine, word="aab", k=0, machines=(TWO,)):
            return accepts_whole(machines, k, word, ("free", machine))

        made = closure_of(TWO, 0)
        self.assertIs(judge(made, "aa"), True)
        self.assertIs(judge(made, "aab"), False)
        self.assertIs(judge(made, "aabab"), False)
        self.assertIs(judge(TWO, "aa"), False)
        self.assertIs(judge(TWO, "aa", 1), True)
        self.assertIs(judge(EVERY, "aa"), False)
        self.assertIs(judge(("abc", ((1, None, None), (2, None, None), (None, 1, None)), (1,)), "aa"), False)
        self.assertIs(judge(("ac", made[1], made[2]), "aa"), False)
        for value in (
            ("Free", made), ("must", made), (None, made), ("free", made, ()), ("free",), ["free", made],
            ("free", made, made),
        ):
            self.assertIs(accepts_whole((TWO,), 0, "aa", value), False)
        self.assertIs(judge(list(made), "aa"), False)
        # Greater than the closure: it takes aaaa, too.
        greater = ("ab", ((1, None), (2, None), (0, 1)), (1,))
        self.assertIs(judge(greater, "ba"), True)
        self.assertIs(judge(greater, "ba", 0, (TWO, made)), True)
        self.assertIs(judge(greater, "ba", 0, (TWO, EVEN)), False)
        self.assertIs(judge(greater, "ba", 0, (EVEN, TWO)), False)
        self.assertIs(judge(greater, "aa", 0, (TWO, TWO)), True)
        self.assertIs(judge(greater, "aaaa", 0, (TWO, TWO)), False)
        # Not least, with the property only from the look 1 on.
        tree = tree_of("ab", ("a", "b"))
        one = (chain("ab", 2, (1,)),)
        self.assertEqual([accepts_whole(one, k, "aa", ("free", tree)) for k in (0, 1, 2)], [False, True, True])
        self.assertIs(judge(NONE, "", 0, (NONE,)), True)
        self.assertIs(judge(NONE, "", 0, (NONE, NONE)), True)
        self.assertIs(judge(NONE, "b", 0, (NONE, TWO)), False)

    def test_point_79_free_evidence_is_judged_by_its_machine_alone(self):
        told = {True: 0, False: 0}
        for machines in TWOS + [(machine,) for machine in AB]:
            for k in (0, 1):
                for machine in (
                    chance.choice(AB), closure_of(machines[0], k), together(*machines[:1], machines[-1], k),
                ):
                    for word in ("", "a", "ba", "aab"):
                        good = has_property(machine, k) and not takes(machine, word)
                        good = good and all(outside_word(one, machine) is None for one in machines)
                        told[good] += 1
                        self.assertIs(accepts_whole(machines, k, word, ("free", machine)), good)
        self.assertGreater(min(told.values()), 100)

    def test_point_80_evidence_of_the_closure_of_a_sample(self):
        for sample in oracles.random_samples(79, 30, "ab", 4, 4):
            for k in (0, 1):
                tree = tree_of("ab", sample)
                for word in oracles.all_words("ab", 4):
                    self.assertEqual(whole_paper((tree,), k, word)[0] == "must", is_must("ab", sample, k, word))

    def test_points_77_78_and_8_values_of_any_kind(self):
        names = ("must", "free", "on", "ends", "back")
        for word in ("", "aabab"):
            for machines in ((TWO,), (TWO, EVEN)):
                oddities.check_judge(
                    self, lambda value: accepts_whole(machines, 0, word, value),
                    [("must", (), ()), ("must", ((),), ((),)), ("free", NONE), ("must", (), (0,) * 5)], names,
                )
        oddities.check_judge(self, lambda value: accepts_whole_joins((TWO,), 0, value), (), names)
        for odd in oddities.oddities():
            for row in (("ends", odd, 1), ("on", 0, odd, "a"), ("back", 0, 0, odd), (odd, 0, 0), (odd,) * 4):
                self.assertIs(accepts_whole_joins((TWO,), 0, whole_joins((TWO,), 0) + (row,)), False)
            self.assertIs(accepts_whole((TWO,), 0, "a", ("must", (), (0, odd))), False)
            self.assertIs(accepts_whole((TWO,), 0, "a", ("must", odd, (0, 1))), False)


class Edges(unittest.TestCase):
    def functions(self, machines, k):
        calls = [
            (whole_classes, machines, k), (whole_paper, machines, k, "a"), (whole_joins, machines, k),
            (accepts_whole, machines, k, "a", None), (accepts_whole_joins, machines, k, None),
            (accepts_whole_joins, machines, k, ()), (accepts_whole, machines, k, "a", oddities.nested(tuple)),
        ]
        if len(machines) == 1:
            return calls + [(closure_of, machines[0], k), (first_added, machines[0], k)]
        return calls + [(together, machines[0], machines[1], k)]

    def is_too_large(self, call):
        try:
            call[0](*call[1:])
        except TooLarge as error:
            return error.what == "looked"
        return False

    def test_point_75_exactly_400_looked_states_and_more(self):
        empty = ("a", (), ())
        for k in (0, 1, 5, 12):
            whole, more = circle("a", 400 - k), circle("a", 400 - k + 1)
            half, rest = circle("a", 200 - k), circle("a", 200 - k + 1)
            fit = [(whole,), (whole, empty), (empty, whole), (half, half), (half, circle("a", 200 - k, (1,)))]
            large = [
                (half, rest), (rest, half), (rest, rest), (whole, whole), (whole, chain("a", 1)),
                (chain("a", 1), whole),
            ]
            for machines in fit:
                self.assertEqual(sum(len(looked_states(machine, k)) for machine in machines), 400)
                for call in self.functions(machines, k):
                    self.assertFalse(self.is_too_large(call), call[0].__name__)
            for machines in large + ([(more,), (more, empty), (empty, more)] if k else []):
                for call in self.functions(machines, k):
                    self.assertTrue(self.is_too_large(call), call[0].__name__)

    def test_point_75_the_least_machine_counts(self):
        many = circle("a", 400, tuple(range(0, 400, 2)))
        self.assertEqual(closure_of(many, 12), circle("a", 2))
        self.assertEqual(together(many, many, 12), circle("a", 2))
        self.assertEqual(len(whole_classes((many, many), 12)), 14)

    def test_point_79_large_wholes(self):
        # Every state is joined with every other one, one letter after another.
        machine = circle("a", 400, (0, 1))
        self.assertEqual(closure_of(machine, 0), ("a", ((0,),), (0,)))
        rows = whole_joins((machine,), 0)
        self.assertEqual(len(rows), 399)
        self.assertIs(accepts_whole_joins((machine,), 0, rows), True)
        paper = whole_paper((machine,), 0, "a" * 500)
        self.assertIs(accepts_whole((machine,), 0, "a" * 500, paper), True)
        self.assertIs(accepts_whole((machine,), 0, "a" * 499, paper), False)
        halves = (circle("a", 199), circle("a", 200))
        self.assertEqual(together(*halves, 0), ("a", ((0,),), (0,)))
        self.assertEqual(len(whole_joins(halves, 0)), 397)

    def test_points_72_and_76_the_empty_language(self):
        for k in range(13):
            self.assertEqual((closure_of(NONE, k), together(NONE, NONE, k)), (NONE, NONE))
            for machines in ((NONE,), (NONE, NONE)):
                self.assertEqual((whole_classes(machines, k), whole_joins(machines, k)), ((), ()))
                self.assertEqual(whole_paper(machines, k, ""), ("free", NONE))
                self.assertIs(accepts_whole_joins(machines, k, ()), True)
                self.assertIs(accepts_whole(machines, k, "", ("must", (), (0,))), False)
                for row in (("ends", 0, 0), ("on", 0, 0, "a"), ("back", 0, 0, "a")):
                    self.assertIs(accepts_whole_joins(machines, k, (row,)), False)
            self.assertIsNone(first_added(NONE, k))
        # Number 0 is the first looked state of the second language if the first one is empty.
        self.assertEqual(whole_classes((NONE, EVEN), 0), ((0,), (1,)))
        self.assertEqual(whole_paper((NONE, EVEN), 0, "aa"), ("must", (), (0, 1, 0)))
        self.assertEqual(together(NONE, EVEN, 0), EVEN)

    def test_looks_up_to_12(self):
        tree = tree_of("a", ("a" * 11, "a" * 13, "a" * 14))
        for k in range(13):
            made = closure("a", ("a" * 11, "a" * 13, "a" * 14), k)
            self.assertEqual(closure_of(tree, k), made)
            self.assertEqual(first_added(tree, k), outside_word(made, tree))

    def test_point_84_wrong_arguments(self):
        wrong = {
            "machine": oddities.MACHINES + [chain("a", 401)], "other": oddities.OTHERS + [chain("ab", 401)],
            "machines": oddities.MACHINE_TUPLES, "k": oddities.LOOKS, "word": oddities.ASKED_WORDS,
        }
        for function in (closure_of, first_added):
            oddities.check_wrong(self, function, ("machine", "k"), (EVEN, 1), wrong)
        oddities.check_wrong(self, together, ("machine", "other", "k"), (EVEN, EVERY, 1), wrong)
        names = ("machines", "k", "word")
        for right in (((EVEN,), 1, "ab"), ((EVEN, EVERY), 1, "ab")):
            for function in (whole_classes, whole_joins):
                oddities.check_wrong(self, function, names[:2], right[:2], wrong)
            oddities.check_wrong(self, whole_paper, names, right, wrong)
            oddities.check_wrong(
                self, lambda machines, k, word: accepts_whole(machines, k, word, None), names, right, wrong,
            )
            oddities.check_wrong(
                self, lambda machines, k: accepts_whole_joins(machines, k, None), names[:2], right[:2], wrong,
            )

    def test_point_84_ahead_of_too_large(self):
        large = circle("a", 400)
        for word in ("b", "a" * 501, None):
            self.assertTrue(oddities.is_refused(whole_paper, ((large,), 12, word), "word"))
            self.assertTrue(oddities.is_refused(accepts_whole, ((large,), 12, word, None), "word"))
        self.assertTrue(oddities.is_refused(closure_of, (large, 13), "k"))
        self.assertTrue(oddities.is_refused(together, (large, circle("ab", 400), 12), "other"))
        self.assertTrue(oddities.is_refused(whole_joins, ((large, large, large), 12), "machines"))


if __name__ == "__main__":
    unittest.main()
