"""What the points say that the chapters have to do with one another, once all of them are there."""

import random
import unittest

from backseen.building import complement_of, union_of
from backseen.cases import case_of, changed
from backseen.comparing import common
from backseen.counting import count_at, growth_degree, longest_word
from backseen.desk import Desk
from backseen.joining import closure, is_must, seen_machine
from backseen.learning import Learner, learned, shown_words
from backseen.looked import looked_machine
from backseen.machines import least_of, takes, tree_of
from backseen.mirrors import renamed, replaced_back, rest_of, reversed_machine, reversed_sample
from backseen.reading import read_machine, read_paper, read_records, read_sample
from backseen.records import are_right
from backseen.sides import accepts_verdict, least_apart, least_apart_from, verdict, verdict_paper
from backseen.single import least_look
from backseen.teaching import teaching, tells_paper
from backseen.telling import first_sample, tells
from backseen.towers import tower
from backseen.undecided import first_undecided, is_any_undecided
from backseen.wholes import closure_of, together
from backseen.windows import window_machine, windows_of
from backseen.writing import machine_text, paper_text, records_text, sample_text
import oracles
from oddities import EVEN, EVERY, NONE

chance = random.Random(9)
MACHINES = oracles.random_machines(9, 60, "ab", 4) + [NONE, EVEN, EVERY]
SIDES = [
    (oracles.random_sample(chance, "ab", 4, 4), oracles.random_sample(chance, "ab", 3, 4)) for _ in range(60)
]
WORDS = oracles.all_words("ab", 4)


def greater_degree(one, other):
    return None if None in (one, other) else max(one, other)


class Whole(unittest.TestCase):
    def test_point_177_complements_unions_and_common_parts(self):
        for one in MACHINES:
            for length in (0, 1, 4, 30):
                self.assertEqual(count_at(complement_of(one), length), 2 ** length - count_at(one, length))
            for other in chance.sample(MACHINES, 5):
                union, part = union_of(one, other), common(one, other)
                for length in (0, 1, 4, 30):
                    self.assertEqual(
                        count_at(union, length) + count_at(part, length),
                        count_at(one, length) + count_at(other, length),
                    )
                self.assertEqual(growth_degree(union), greater_degree(growth_degree(one), growth_degree(other)))

    def test_point_177_words_that_must_be_in(self):
        for sample, outside in SIDES:
            for k in (0, 1, 2):
                for length in range(5):
                    told = [
                        word for word in WORDS
                        if len(word) == length and verdict("ab", sample, outside, k, word) == "must"
                    ]
                    if "clash" != verdict("ab", sample, outside, k, ""):
                        self.assertEqual(len(told), count_at(closure("ab", sample, k), length))

    def test_points_80_and_162_closures_of_whole_languages_read_backward_and_renamed(self):
        for machine in MACHINES[::2]:
            for k in (0, 1, 2):
                made = closure_of(machine, k)
                self.assertEqual(reversed_machine(made), closure_of(reversed_machine(machine), k))
                self.assertEqual(renamed(made, "zc"), closure_of(renamed(machine, "zc"), k))
                self.assertEqual(reversed_machine(windows_of(machine, k)), windows_of(reversed_machine(machine), k))
                other = chance.choice(MACHINES)
                self.assertEqual(
                    reversed_machine(together(machine, other, k)),
                    together(reversed_machine(machine), reversed_machine(other), k),
                )

    def test_point_88_windows_read_backward(self):
        for sample, _ in SIDES:
            for k in (0, 1, 2):
                back = window_machine("ab", reversed_sample("ab", sample), k)
                self.assertEqual(back, reversed_machine(window_machine("ab", sample, k)))

    def test_point_98_rests_and_replaced_words(self):
        for machine in MACHINES:
            for made in (rest_of(machine, "ab"), replaced_back(machine, "xy", ("ab", "b")), renamed(machine, "ba")):
                if None not in (least_look(machine), least_look(made)):
                    self.assertLessEqual(least_look(made), least_look(machine))
            self.assertEqual(least_look(renamed(machine, "ba")), least_look(machine))

    def test_points_102_112_and_153_the_least_look_of_two_sides(self):
        for sample, outside in SIDES:
            found = learned("ab", sample, outside)
            least = least_apart("ab", sample, outside)
            self.assertEqual(None if found is None else found[0], least)
            self.assertEqual(least_apart_from(tree_of("ab", sample), outside), least)

    def test_point_143_of_a_whole_language_and_one_word(self):
        for machine in MACHINES:
            if least_look(machine) is None:
                continue
            k, sample, word = teaching(machine)
            outside = () if word is None else (word,)
            if all(len(other) <= 12 for other in sample + outside) and len(sample) <= 12:
                self.assertEqual(least_apart("ab", sample, outside), k)
                self.assertEqual(least_apart_from(machine, outside), k)
                self.assertLessEqual(is_any_undecided("ab", sample, outside, k), True)
            self.assertEqual(tells_paper(machine, k, sample)[0], "tells")
            self.assertEqual(shown_words(machine, k, sample), ())

    def test_points_113_and_192_raising_the_look_goes_up_the_tower(self):
        for sample, outside in SIDES:
            if set(sample) & set(outside):
                continue
            words = chance.sample(WORDS, 3)
            desk = Desk("ab", 0)
            for command in [("in", word) for word in sample] + [("out", word) for word in outside]:
                desk.act(command)
            for word in words:
                desk.act(("ask", word))
            found = [[desk.verdict(word) for word in words]]
            while len(desk.journal()) < 24 and desk.look() < 12:
                before = {word: desk.paper(word) for word in words}
                fresh = desk.act(("raise",))
                found.append([desk.verdict(word) for word in words])
                for word in words:
                    # By point 109 a paper that changes nothing shows the verdict at the greater look, if it is "open".
                    self.assertFalse(before[word][0] == "open" and word in fresh)
            for at, word in enumerate(words):
                told = tower("ab", sample, outside, word)
                self.assertEqual([row[at] for row in found], list(told[:len(found)]))

    def test_points_148_and_192_a_learner_beside_a_desk(self):
        for sample, outside in SIDES:
            k = chance.choice((0, 1, 2))
            learner, desk = Learner("ab", k), Desk("ab", k)
            for word in sample:
                self.assertIs(learner.add(word), verdict("ab", *desk.words(), k, word) != "must")
                desk.act(("in", word))
            self.assertEqual(learner.words(), desk.words()[0])
            for word in WORDS[:12]:
                self.assertIs(learner.takes(word), verdict("ab", sample, (), k, word) == "must")
            for word in outside:
                if word not in sample:
                    desk.act(("out", word))
            clash = any(learner.takes(word) for word in desk.words()[1])
            self.assertEqual(desk.open_word() is None, clash or first_undecided("ab", *desk.words(), k) is None)

    def test_points_51_122_and_151_the_case_and_the_sizes_of_a_learner(self):
        for sample, _ in SIDES:
            k = chance.choice((0, 1, 2))
            learner = Learner("ab", k)
            for word in sample:
                held = learner.words()
                learner.add(word)
                _, _, _, case, _, (states, number) = learner.log()[-1]
                self.assertEqual(case, case_of("ab", held, k, word))
                self.assertEqual(least_of(changed("ab", held, k, word)[0]), learner.machine())
                self.assertEqual(states, len(learner.machine()[1]))
                self.assertEqual(number, len(first_sample(learner.machine(), k)))
                self.assertEqual(
                    looked_machine(learner.machine(), k), seen_machine("ab", learner.words(), k),
                )
                self.assertIs(tells(learner.machine(), k, learner.words()), True)

    def test_point_187_what_the_library_returns_is_written_and_read_back(self):
        for sample, outside in SIDES:
            self.assertEqual(read_sample(sample_text("ab", sample)), ("ab", sample))
            for k in (0, 1):
                for machine in (closure("ab", sample, k), seen_machine("ab", sample, k), tree_of("ab", sample)):
                    self.assertEqual(read_machine(machine_text(machine)), machine)
                for word in ("", "ab", "bba"):
                    paper = verdict_paper("ab", sample, outside, k, word)
                    letters, again = read_paper(paper_text("ab", paper))
                    self.assertIs(accepts_verdict(letters, sample, outside, k, word, again), True)

    def test_points_187_and_201_a_desk_handed_over_as_a_text(self):
        for sample, outside in SIDES[:30]:
            desk = Desk("ab", 0)
            for word in ("ab", "", "bab"):
                desk.act(("ask", word))
            for word in sample:
                desk.act(("in", word))
            for word in outside:
                if word not in sample:
                    desk.act(("out", word))
            text = records_text(desk.letters(), desk.began(), desk.records())
            self.assertIs(are_right(*read_records(text)), True)
            # One word of the text exchanged: the papers are papers about other words.
            for at in range(len(text)):
                if text[at] in "ab" and text[at - 4:at] == "ASK ":
                    other = text[:at] + ("b" if text[at] == "a" else "a") + text[at + 1:]
                    letters, k, records = read_records(other)
                    good = are_right(letters, k, records)
                    self.assertIs(good, self.is_right(letters, k, records))

    def is_right(self, letters, k, records):
        words_in, words_out, asked, papers = (), (), (), {}
        for (deed, *word), fresh in records:
            if deed == "in":
                words_in = oracles.in_order(words_in + tuple(word))
            elif deed == "out":
                words_out = oracles.in_order(words_out + tuple(word))
            elif word[0] in asked:
                return False
            else:
                asked += tuple(word)
            papers.update(fresh)
            for number, other in enumerate(asked):
                if not accepts_verdict(letters, words_in, words_out, k, other, papers.get(number)):
                    return False
        return True

    def test_point_6_the_definition_over_words_that_the_library_tells(self):
        """For words x, y, v, w, z: with xvw, yvw and xvz in a closure, yvz is in it, too."""
        for sample, _ in SIDES[:25]:
            for k in (0, 1, 2):
                made = closure("ab", sample, k)
                words = [word for word in WORDS if takes(made, word)]
                fourth = oracles.steps_from(words, k, 8)
                self.assertTrue(all(takes(made, word) for word in fourth))
                self.assertTrue(all(is_must("ab", sample, k, word) for word in fourth))
                self.assertTrue(longest_word(made) is None or len(longest_word(made)) <= 4)


if __name__ == "__main__":
    unittest.main()
