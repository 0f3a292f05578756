"""Looked states and looked machines (points 72 to 74)."""

import unittest

from backseen.errors import TooLarge
from backseen.joining import seen_machine
from backseen.looked import looked_machine, looked_states
from backseen.looking import has_property, is_of_look
from backseen.machines import is_least, is_machine, least_of, tree_of
import oddities
import oracles
from oddities import EVEN, EVERY, NONE, chain, circle

MACHINES = (
    oracles.all_machines("a", 3) + oracles.all_machines("ab", 2) + oracles.random_machines(72, 60, "ab", 5)
    + oracles.random_machines(73, 10, "abcd", 3) + [NONE]
)
LOOKS = (0, 1, 2, 3)


class Looked(unittest.TestCase):
    def test_point_72_the_looked_states(self):
        for machine in MACHINES:
            for k in LOOKS:
                found = oracles.looked_states(least_of(machine), k)
                first = sorted(found.values(), key=oracles.place)
                states = looked_states(machine, k)
                self.assertIs(type(states), tuple)
                self.assertEqual(states, tuple(sorted(found, key=lambda pair: oracles.place(found[pair]))))
                self.assertEqual([found[pair] for pair in states], first)
                self.assertEqual(states[:1], ((0, ""),) if machine[1] and machine[2] else ())

    def test_point_72_they_depend_on_the_language_alone(self):
        different = 0
        for machine in MACHINES:
            least = least_of(machine)
            different += least != machine
            for k in LOOKS:
                self.assertEqual(looked_states(machine, k), looked_states(least, k))
                self.assertEqual(looked_machine(machine, k), looked_machine(least, k))
        self.assertGreater(different, 20)
        for k in range(13):
            self.assertEqual(looked_states(circle("a", 12, (0, 2, 4, 6, 8, 10)), k), looked_states(circle("a", 2), k))

    def test_point_72_one_word_leads_to_a_short_one(self):
        for machine in MACHINES:
            least = least_of(machine)
            words = oracles.all_words(machine[0], 4 if len(machine[0]) < 4 else 3)
            for k in (1, 2, 3):
                for state, lead in looked_states(machine, k):
                    if len(lead) < k:
                        led = [word for word in words if oracles.state_behind(least, word) == state]
                        self.assertEqual([word for word in led if oracles.lead(word, k) == lead], [lead])

    def test_point_73_the_looked_machine(self):
        unlike = 0
        for machine in MACHINES:
            for k in LOOKS:
                states, looked = looked_states(machine, k), looked_machine(machine, k)
                self.assertIs(is_machine(looked), True)
                self.assertEqual(least_of(looked), least_of(machine))
                self.assertEqual(looked_machine(looked, k), looked)
                unlike += not is_least(looked)
                letters, rows, ends = looked
                least = least_of(machine)
                self.assertEqual(ends, tuple(at for at, (state, _) in enumerate(states) if state in least[2]))
                self.assertEqual(len(rows), len(states))
                for (state, lead), row in zip(states, rows):
                    for letter, target, number in zip(letters, least[1][state], row):
                        if target is None:
                            self.assertIsNone(number)
                        else:
                            self.assertEqual(states[number], (target, oracles.lead(lead + letter, k)))
        self.assertGreater(unlike, 100)

    def test_point_73_at_the_look_0_it_is_the_least_machine(self):
        for machine in MACHINES:
            self.assertEqual(looked_machine(machine, 0), least_of(machine))

    def test_point_51_the_looked_machine_of_a_language_of_look_k_is_its_seen_machine(self):
        for sample in oracles.random_samples(51, 60):
            for k in (0, 1, 2, 12):
                seen = seen_machine("ab", sample, k)
                self.assertEqual(looked_machine(seen, k), seen)

    def test_point_73_it_has_the_property_if_the_language_is_of_the_look(self):
        for machine in MACHINES:
            for k in (0, 1, 2, 3):
                self.assertIs(has_property(looked_machine(machine, k), k), is_of_look(machine, k))

    def test_point_74_exactly_400_looked_states_and_more(self):
        for k in range(13):
            whole = circle("a", 400 - k)
            self.assertEqual(len(looked_states(whole, k)), 400)
            self.assertEqual(len(looked_machine(whole, k)[1]), 400)
            self.assertEqual(len(looked_states(chain("ab", 400), k)), 400)
            # Not least: the least machine has few states, so there are few looked states.
            self.assertEqual(len(looked_states(circle("a", 400, tuple(range(0, 400, 4))), k)), 4 + k)
            for function in (looked_states, looked_machine):
                if k > 0:
                    with self.assertRaises(TooLarge) as caught:
                        function(circle("a", 401 - k), k)
                    self.assertEqual(caught.exception.what, "looked")
        for k, many in ((8, 511), (7, 255)):
            if many <= 400:
                self.assertEqual(len(looked_states(EVERY, k)), many)
            else:
                self.assertRaises(TooLarge, looked_states, EVERY, k)
        self.assertRaises(TooLarge, looked_states, EVEN, 12)

    def test_point_72_the_empty_language(self):
        for k in range(13):
            self.assertEqual(looked_states(NONE, k), ())
            self.assertEqual(looked_machine(NONE, k), NONE)
            self.assertEqual(looked_states(tree_of("ab", ()), k), ())

    def test_point_84_wrong_arguments(self):
        wrong = {"machine": oddities.MACHINES + [chain("a", 401)], "k": oddities.LOOKS}
        for function in (looked_states, looked_machine):
            oddities.check_wrong(self, function, ("machine", "k"), (EVEN, 1), wrong)
            self.assertTrue(oddities.is_refused(function, (circle("a", 400), 13), "k"))


if __name__ == "__main__":
    unittest.main()
